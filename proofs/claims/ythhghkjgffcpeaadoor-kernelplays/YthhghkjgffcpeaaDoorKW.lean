/- A kernel by what it holds. -/
import Derived.Test.YthhghkjgffcpeaaDoorNew
namespace Go.Proofs.YthhghkjgffcpeaaDoor
open Go.RowKit Go.Shelf

/-- A kernel in blocks from B on: its files, rows and events. -/
def KW (W : World) (B kb : Nat) (F : Fls) (R : List Rw) (E : List Ev) : Prop :=
  ∃ (K : Nat → Prop) (mb : Nat) (ev rv : Value) (Y : List (Rw × Value)) (X : List (Ev × Value)), Kern W K kb mb ev rv F Y X ∧ Y.map Prod.fst = R ∧ X.map Prod.fst = E ∧ (∀ i, K i → B ≤ i)
/-- Nothing in it is too great. -/
structure Sml (F : Fls) (R : List Rw) (E : List Ev) : Prop where
  f : F.length < 4294967296
  fn : ∀ p ∈ F, p.1.length < 4294967296 ∧ p.2.length < 4294967296
  r : R.length < 4294967296
  ra : ∀ r ∈ R, r.args.length < 4294967296 ∧ r.out.length < 4294967296
  e : E.length < 4294967296
  el : ∀ e ∈ E, e.l.length < 4294967296
theorem KW.below {W W' : World} {B kb : Nat} {F : Fls} {R : List Rw} {E : List Ev} (h : KW W B kb F R E) (hb : Below W.heap.size W W') : KW W' B kb F R E := by
  obtain ⟨K, mb, ev, rv, Y, X, h1, h2⟩ := h
  exact ⟨K, mb, ev, rv, Y, X, h1.below hb, h2⟩
theorem len_of {α β : Type} {X : List (α × β)} {E : List α} (h : X.map Prod.fst = E) : X.length = E.length := by rw [← h, List.length_map]
theorem all_of {α β : Type} {X : List (α × β)} {E : List α} {P : α → Prop} (h : X.map Prod.fst = E) (hp : ∀ e ∈ E, P e) : ∀ q ∈ X, P q.1 := fun q hq => hp q.1 (by rw [← h]; exact List.mem_map.2 ⟨q, hq, rfl⟩)
theorem dat_small {F : Fls} (h : ∀ p ∈ F, p.1.length < 4294967296 ∧ p.2.length < 4294967296) (k : Txt) : (datF F k).length < 4294967296 := by
  unfold datF
  cases hf : F.find? (fun p => p.1 == k) with
  | none => exact Nat.zero_lt_succ _
  | some p => exact (h p (List.mem_of_find?_eq_some hf)).2
theorem map_app {α β : Type} {X X' : List (α × β)} {E E' : List α} (h : X.map Prod.fst = E) (h' : X'.map Prod.fst = E') : (X ++ X').map Prod.fst = E ++ E' := by rw [List.map_append, h, h']

section
variable {W : World} {B kb : Nat} {F : Fls} {R : List Rw} {E : List Ev}
theorem KW.mark (k n : Int) (h : KW W B kb F R E) (hs : Sml F R E) (hB : B ≤ W.heap.size) :
    Calls Tryd.prog 24 #[kP kb, .int .i64 k, .int .i64 n] W fun r w' => r = .returned (.tuple #[]) ∧ KW w' B kb F R (E ++ marked k n) ∧ Below B W w' := by
  obtain ⟨K, mb, ev, rv, Y, X, h1, h2, h3, h4⟩ := h
  refine (mark_any k n h1 (by rw [len_of h3]; exact hs.e)).mono ?_
  rintro e w' ⟨rfl, ev', X', K', k1, k2, k3⟩
  have k4 := k3.below h4 hB
  exact ⟨rfl, ⟨K', mb, ev', rv, Y, X ++ X', k1, h2, map_app h3 k2, k4.2⟩, k4.1⟩
theorem KW.open (f : Txt) (m : Int) (h : KW W B kb F R E) (hs : Sml F R E) (hB : B ≤ W.heap.size) (hf : f.length < 4294967296) :
    Calls Tryd.prog 20 #[kP kb, str f, .int .i64 m] W fun r w' => r = .returned (.tuple #[str (openD F f m), .bool (openB F f m)]) ∧ KW w' B kb (openF F f m) R (E ++ openE F f m) ∧ Below B W w' := by
  obtain ⟨K, mb, ev, rv, Y, X, h1, h2, h3, h4⟩ := h
  refine (open_any f m h1 (by rw [len_of h3]; exact hs.e) hs.f hf).mono ?_
  rintro e w' ⟨rfl, ev', X', K', k1, k2, k3⟩
  have k4 := k3.below h4 hB
  exact ⟨rfl, ⟨K', mb, ev', rv, Y, X ++ X', k1, h2, map_app h3 k2, k4.2⟩, k4.1⟩
theorem KW.write (f d : Txt) (ea : Addr) (h : KW W B kb F R E) (hs : Sml F R E) (hB : B ≤ W.heap.size) (hf : f.length < 4294967296) (hd : d.length < 4294967296) (hE : Er W 0 ea) :
    Calls Tryd.prog 22 #[kP kb, str f, str d] W fun r w' => r = .returned (errR (writeB F f d) ea) ∧ KW w' B kb (writeF F f d) R (E ++ writeE F f d) ∧ Below B W w' := by
  obtain ⟨K, mb, ev, rv, Y, X, h1, h2, h3, h4⟩ := h
  refine (write_any f d ea h1 (by rw [len_of h3]; exact hs.e) hs.f hf hd (dat_small hs.fn f) hE).mono ?_
  rintro e w' ⟨rfl, ev', X', K', k1, k2, k3⟩
  have k4 := k3.below h4 hB
  exact ⟨rfl, ⟨K', mb, ev', rv, Y, X ++ X', k1, h2, map_app h3 k2, k4.2⟩, k4.1⟩
theorem KW.exec (name inp : Txt) (args : List Txt) (va : Value) (o : Option Rw) (ho : rowOf R name args = o) (h : KW W B kb F R E) (hs : Sml F R E) (hB : B ≤ W.heap.size) (ha : Tx W va args) (hla : args.length < 4294967296) (hinp : inp.length < 4294967296) :
    Calls Tryd.prog 16 #[kP kb, str name, str inp, va] W fun r w' => r = .returned (.tuple #[str (outOf o inp), .int .i64 (statOf o), .bool o.isSome]) ∧ KW w' B kb F R (E ++ [⟨1, statOf o, name, heardOf o inp, args⟩]) ∧ Below B W w' := by
  obtain ⟨K, mb, ev, rv, Y, X, h1, h2, h3, h4⟩ := h
  refine (exec_any name inp args va h1 (by rw [len_of h3]; exact hs.e) (by rw [len_of h2]; exact hs.r) ha hla (all_of h2 fun r hr => (hs.ra r hr).1) hinp (all_of h2 fun r hr => (hs.ra r hr).2) o (by rw [h2]; exact ho)).mono ?_
  rintro e w' ⟨rfl, ev', lv', K', k1, k3⟩
  have k4 := k3.below h4 hB
  exact ⟨rfl, ⟨K', mb, ev', rv, Y, _, k1, h2, map_app h3 rfl, k4.2⟩, k4.1⟩
theorem KW.reads (name : Txt) (args : List Txt) (va : Value) (o : Option Rw) (ho : rowOf R name args = o) (h : KW W B kb F R E) (hs : Sml F R E) (ha : Tx W va args) (hla : args.length < 4294967296) :
    Calls Tryd.prog 18 #[kP kb, str name, va] W fun e w' => e = .returned (.bool (readsB o)) ∧ Below W.heap.size W w' := by
  obtain ⟨K, mb, ev, rv, Y, X, h1, h2, h3, h4⟩ := h
  exact reads_any name args va h1 (by rw [len_of h2]; exact hs.r) ha hla (all_of h2 fun r hr => (hs.ra r hr).1) o (by rw [h2]; exact ho)
theorem KW.len (h : KW W B kb F R E) : Calls Tryd.prog 26 #[kP kb] W fun e w' => e = .returned (.int .i64 E.length) ∧ w' = W := by
  obtain ⟨K, mb, ev, rv, Y, X, h1, h2, h3, h4⟩ := h
  refine (len_any h1).mono ?_
  rintro e w' ⟨rfl, hw⟩
  exact ⟨by rw [len_of h3], hw⟩
theorem KW.names (h : KW W B kb F R E) (hs : Sml F R E) : Calls Tryd.prog 32 #[kP kb] W fun e w' => ∃ v', e = .returned v' ∧ w'.ownsRow W.heap.size 9 1 v' (F.map Prod.fst).length (txV (F.map Prod.fst)) ∧ Below W.heap.size W w' := by
  obtain ⟨K, mb, ev, rv, Y, X, h1, h2, h3, h4⟩ := h
  exact names_any h1 hs.f
theorem KW.files (h : KW W B kb F R E) (hs : Sml F R E) : Calls Tryd.prog 30 #[kP kb] W fun e w' => ∃ v', e = .returned v' ∧ w'.ownsRow W.heap.size 73 2 v' F.length (flCs F) ∧ Below W.heap.size W w' := by
  obtain ⟨K, mb, ev, rv, Y, X, h1, h2, h3, h4⟩ := h
  exact files_any h1 hs.f fun p hp => (hs.fn p hp).1
theorem KW.trace (h : KW W B kb F R E) (hs : Sml F R E) : Calls Tryd.prog 28 #[kP kb] W fun e w' => ∃ v' X', e = .returned v' ∧ EvOwn w' W.heap.size v' X' ∧ X'.map Prod.fst = E ∧ Below W.heap.size W w' := by
  obtain ⟨K, mb, ev, rv, Y, X, h1, h2, h3, h4⟩ := h
  refine (trace_any h1 (by rw [len_of h3]; exact hs.e) (all_of h3 hs.el)).mono ?_
  rintro e w' ⟨v', X', rfl, k1, k2, k3⟩
  exact ⟨v', X', rfl, k1, k2.trans h3, k3⟩
end
theorem KW.new (fv rv : Value) (Fl : Fls) (Y : List (Rw × Value)) (ea : Nat → Addr) (W : World) (hf : FlAt W fv Fl) (hr : RwAt W rv Y) (hl : ∀ p ∈ Y, p.1.args.length < 4294967296) (hN : ∀ p ∈ Fl, p.1.length < 4294967296) (hE : Ers W ea) (hm : mayR Fl (Y.map Prod.fst) = none) :
    Calls Tryd.prog 12 #[wV fv rv] W fun e w' => ∃ kb, e = .returned (.tuple #[kP kb, .nilIface]) ∧ KW w' W.heap.size kb (putAll Fl) (Y.map Prod.fst) [] ∧ Below W.heap.size W w' := by
  have hsm := mayR_small hm
  rw [List.length_map] at hsm
  refine (new_any fv rv Fl Y ea W hf hr (by omega) (by omega) hl hN hE hm).mono ?_
  rintro e w' ⟨kb, mb, rv', Y', K, rfl, k1, k2, k3, k4⟩
  exact ⟨kb, rfl, ⟨K, mb, _, rv', Y', [], k1, k2, rfl, k3⟩, k4⟩
end Go.Proofs.YthhghkjgffcpeaaDoor
