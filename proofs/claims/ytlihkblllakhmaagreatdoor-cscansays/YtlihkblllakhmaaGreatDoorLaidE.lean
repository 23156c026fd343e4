/- The errors lie in the variables, out of what the card lays. -/
import Derived.Test.YtlihkblllakhmaaGreatDoorRows
import Derived.Test.YtlihkblllakhmaaGreatDoorRd7
import Derived.HandedShaped
import Derived.Shelf.Vars
import Derived.Lib.LaidTab
import Derived.ProofKit
import Derived.Carry
import Derived.LaidMore
import Derived.OpenShut
namespace Go.Proofs.YtlihkblllakhmaaGreatDoor
open Go.RowKit Go.Lib
/-- The text of the error in a variable. -/
def textE : Nat → List UInt8
  | 0 => [116, 111, 111, 32, 108, 111, 110, 103]
  | 3 => [110, 111, 32, 116, 111, 107, 101, 110]
  | 4 => [110, 101, 115, 116, 101, 100, 32, 116, 111, 111, 32, 100, 101, 101, 112]
  | 2 => [97, 32, 113, 117, 111, 116, 101, 32, 116, 104, 97, 116, 32, 100, 111, 101, 115, 32, 110, 111, 116, 32, 101, 110, 100]
  | 5 => [97, 32, 98, 114, 97, 99, 107, 101, 116, 32, 116, 104, 97, 116, 32, 100, 111, 101, 115, 32, 110, 111, 116, 32, 101, 110, 100]
  | 1 => [97, 32, 98, 114, 97, 99, 101, 32, 116, 104, 97, 116, 32, 100, 111, 101, 115, 32, 110, 111, 116, 32, 101, 110, 100]
  | 6 => [110, 111, 32, 110, 97, 109, 101]
  | 7 => [105, 116, 32, 100, 111, 101, 115, 32, 110, 111, 116, 32, 115, 116, 97, 110, 100, 32, 104, 101, 114, 101]
  | 8 => [105, 116, 32, 101, 110, 100, 115, 32, 116, 111, 111, 32, 101, 97, 114, 108, 121]
  | 9 => [110, 111, 32, 112, 114, 111, 103, 114, 97, 109]
  | 10 => [116, 111, 111, 32, 109, 97, 110, 121]
  | 11 => [116, 111, 111, 32, 109, 97, 110, 121, 32, 115, 116, 101, 112, 115]
  | 12 => [99, 97, 108, 108, 101, 100, 32, 116, 111, 111, 32, 100, 101, 101, 112]
  | 13 => [116, 111, 111, 32, 98, 105, 103]
  | 14 => [105, 116, 32, 99, 97, 110, 110, 111, 116, 32, 98, 101, 32, 115, 97, 105, 100]
  | 15 => [110, 111, 32, 99, 111, 100, 101]
  | 16 => [110, 111, 32, 115, 117, 99, 104, 32, 110, 117, 109, 98, 101, 114]
  | _ => []
theorem textE_all : ∀ i, i < 17 → ∀ j, j < 17 → (textE i ≠ textE j ∨ i = j) := by decide
theorem textE_inj (i : Nat) (hi : i < 17) (j : Nat) (hj : j < 17) (h : textE i = textE j) : i = j := by
  rcases textE_all i hi j hj with e | e
  · exact absurd h e
  · exact e
theorem env_of {W : World} {ea : Nat → Addr} (h : ∀ i, i < 17 → W.cell? ⟨i, 0, none⟩ = some (errV (ea i)) ∧ (∃ s, W.cell? (ea i) = some (.string s) ∧ s.data.toList = textE i) ∧ ∃ c t, W.heap[(ea i).block]? = some (.cells c t (0, 0)))
    (hm : ∃ m : Int, W.cell? ⟨17, 0, none⟩ = some (.int .i64 m)) (h64 : ea 64 = ⟨W.heap.size, 0, none⟩) : Env W ea where
  cell i hi := (h i hi).1
  apart i j hi hj e := by
    obtain ⟨s, a1, a2⟩ := (h i hi).2.1
    obtain ⟨s', a3, a4⟩ := (h j hj).2.1
    rw [e, a3] at a1
    cases a1
    exact textE_inj i hi j hj (a2.symm.trans a4)
  row i hi := (h i hi).2.2
  glob := by
    obtain ⟨m, hm⟩ := hm
    have := World.block_lt_of_cell? W _ hm
    rw [h64]
    exact this
  old i hi := by
    obtain ⟨c, t, hc⟩ := (h i hi).2.2
    rw [h64]
    exact (Array.getElem?_eq_some_iff.1 hc).1
  ml := hm
/-- The number that the library's own variable holds, out of the world's shape. -/
theorem ml_of {W : World} (h : W.ShapedOpen Tryz.prog) : ∃ m : Int, W.cell? ⟨17, 0, none⟩ = some (.int .i64 m) :=
  cell_of_shapedOpen_int (P := Tryz.prog) (g := 17) (t := 3) (zero := #[.int .i64 0]) h (of_decide_eq_true (by kernel_rfl)) (by kernel_rfl) rfl (by kernel_rfl) (by kernel_rfl) Tryz.underlying3
/-- A call's contract lifted to a row whose world is laid: the contract is handed what is laid and the world's shape. -/
theorem handed_shaped {H : Type} {enc : TypeId × Value → H} {a : Assume} {C : Checked} {os : Os} {f : FuncId} {fn : Func} {s : ChangeSpec} {conds : List PathCond} {apart fresh handsOn again : Bool} {X : World → Array Value → Prop}
    (hX : ∀ (w w' : World) (args : Array Value), w.heap = w'.heap → X w args → X w' args)
    (own : ownKnob C.prog.godebug = none) (started : os.Started) (noInit : C.prog.inits.idxOf? f = none) (hfn : C.prog.funcs[f]? = some fn)
    (witness : ∃ (w : World) (tape : Tape) (i : Input), w.os = os ∧ (w.forCall tape i).Shaped C.prog ∧ i.vars = [] ∧ Input.okWide C.prog (w.forCall tape i) .any w.heap.size f i ∧
      ((s.pre enc C.prog fn conds apart (w.forCall tape i).memory i.args ∧ X (w.forCall tape i).memory i.args) ∧ sizedMet enc C.prog fn (OpenSpec.ofChange s) apart (w.forCall tape i).memory i.args) ∧ a.holds C.prog (lone (Frame.enter C.prog f i.args .normal) [] (w.forCall tape i)))
    (contract : ∀ (W : World) (base : Nat) (args : Array Value) (ds gs : List (DataW H)) (before : List MemPlace),
      (∀ (j : Nat) t v, fn.params[j]? = some t → args[j]? = some v → Value.okWide C.prog W .any base t v) →
      DataW.Whole enc C.prog fn.params.toList s.vars apart W args.toList ds gs before → X W args → W.ShapedOpen C.prog →
      Calls C.prog f args W fun e W' => ∃ v, e = .returned v ∧ s.post enc C.prog fn apart fresh handsOn again W args v W') :
    ReturnsInHanded a C os f .any (fun w args => (s.pre enc C.prog fn conds apart w args ∧ X w args) ∧ sizedMet enc C.prog fn (OpenSpec.ofChange s) apart w args) (s.post enc C.prog fn apart fresh handsOn again) := by
  refine returnsInHanded_of_calls own started noInit witness ?_
  rintro w tape i _ hshape _ ⟨_, _, _, fn', hfn', _, _, _, _, hval⟩ ⟨⟨⟨ds, gs, before, hwhole, _⟩, hx⟩, _⟩ _
  obtain rfl : fn' = fn := Option.some.inj (hfn'.symm.trans hfn)
  refine (contract (w.forCall tape i) w.heap.size i.args ds gs before hval (DataW.Whole.of_heap (w' := w.forCall tape i) (by rfl) hwhole) (hX _ _ _ (by rfl) hx) hshape).mono ?_
  rintro e W' ⟨v, rfl, hp⟩
  exact ChangeSpec.post_blind hp
end Go.Proofs.YtlihkblllakhmaaGreatDoor
