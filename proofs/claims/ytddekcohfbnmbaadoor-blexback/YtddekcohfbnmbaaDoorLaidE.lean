/- The errors and the signs lie in the variables, out of what the card lays. -/
import Derived.Test.YtddekcohfbnmbaaDoorRows
import Derived.Test.YtddekcohfbnmbaaDoorRd3
import Derived.HandedShaped
import Derived.Shelf.Vars
import Derived.Lib.LaidTab
import Derived.ProofKit
import Derived.Carry
import Derived.LaidMore
import Derived.OpenShut
namespace Go.Proofs.YtddekcohfbnmbaaDoor
open Go.RowKit Go.Lib
/-- The text of the error in a variable. -/
def textE : Nat → List UInt8
  | 0 => [116, 111, 111, 32, 108, 111, 110, 103]
  | 2 => [110, 111, 32, 116, 111, 107, 101, 110]
  | 4 => [110, 101, 115, 116, 101, 100, 32, 116, 111, 111, 32, 100, 101, 101, 112]
  | 3 => [97, 32, 113, 117, 111, 116, 101, 32, 116, 104, 97, 116, 32, 100, 111, 101, 115, 32, 110, 111, 116, 32, 101, 110, 100]
  | 5 => [97, 32, 98, 114, 97, 99, 107, 101, 116, 32, 116, 104, 97, 116, 32, 100, 111, 101, 115, 32, 110, 111, 116, 32, 101, 110, 100]
  | 6 => [97, 32, 98, 114, 97, 99, 101, 32, 116, 104, 97, 116, 32, 100, 111, 101, 115, 32, 110, 111, 116, 32, 101, 110, 100]
  | 7 => [110, 111, 32, 110, 97, 109, 101]
  | 8 => [105, 116, 32, 100, 111, 101, 115, 32, 110, 111, 116, 32, 115, 116, 97, 110, 100, 32, 104, 101, 114, 101]
  | 9 => [105, 116, 32, 101, 110, 100, 115, 32, 116, 111, 111, 32, 101, 97, 114, 108, 121]
  | 10 => [110, 111, 32, 112, 114, 111, 103, 114, 97, 109]
  | 11 => [116, 111, 111, 32, 109, 97, 110, 121]
  | 12 => [116, 111, 111, 32, 109, 97, 110, 121, 32, 115, 116, 101, 112, 115]
  | 13 => [99, 97, 108, 108, 101, 100, 32, 116, 111, 111, 32, 100, 101, 101, 112]
  | 14 => [116, 111, 111, 32, 98, 105, 103]
  | 15 => [105, 116, 32, 99, 97, 110, 110, 111, 116, 32, 98, 101, 32, 115, 97, 105, 100]
  | 16 => [110, 111, 32, 99, 111, 100, 101]
  | 17 => [110, 111, 32, 115, 117, 99, 104, 32, 110, 117, 109, 98, 101, 114]
  | _ => []
theorem textE_all : ∀ i, i < 18 → ∀ j, j < 18 → (i = 1 ∨ j = 1 ∨ textE i ≠ textE j ∨ i = j) := by decide
theorem textE_inj (i : Nat) (hi : i < 18) (j : Nat) (hj : j < 18) (h1 : i ≠ 1) (h2 : j ≠ 1) (h : textE i = textE j) : i = j := by
  rcases textE_all i hi j hj with e | e | e | e
  · exact absurd e h1
  · exact absurd e h2
  · exact absurd h e
  · exact e
theorem env_of {W : World} {ea : Nat → Addr} (h : ∀ i, i < 18 → i ≠ 1 → W.cell? ⟨i, 0, none⟩ = some (errV (ea i)) ∧ (∃ s, W.cell? (ea i) = some (.string s) ∧ s.data.toList = textE i) ∧ ∃ c t, W.heap[(ea i).block]? = some (.cells c t (0, 0)))
    (hs : ∃ (t : TypeId) (fr : Nat × Nat), W.heap[1]? = some (.cells sgA t fr)) (hm : ∃ m : Int, W.cell? ⟨18, 0, none⟩ = some (.int .i64 m)) (h64 : ea 64 = ⟨W.heap.size, 0, none⟩) : Env W ea where
  cell i hi h1 := (h i hi h1).1
  apart i j hi hj h1 h2 e := by
    obtain ⟨s, a1, a2⟩ := (h i hi h1).2.1
    obtain ⟨s', a3, a4⟩ := (h j hj h2).2.1
    rw [e, a3] at a1
    cases a1
    exact textE_inj i hi j hj h1 h2 (a2.symm.trans a4)
  row i hi h1 := (h i hi h1).2.2
  glob := by
    obtain ⟨m, hm⟩ := hm
    have := World.block_lt_of_cell? W _ hm
    rw [h64]
    exact this
  old i hi h1 := by
    obtain ⟨c, t, hc⟩ := (h i hi h1).2.2
    rw [h64]
    exact (Array.getElem?_eq_some_iff.1 hc).1
  sg := hs
  ml := hm
/-- The number that the library's own variable holds, out of the world's shape. -/
theorem ml_of {W : World} (h : W.ShapedOpen Tryd.prog) : ∃ m : Int, W.cell? ⟨18, 0, none⟩ = some (.int .i64 m) :=
  cell_of_shapedOpen_int (P := Tryd.prog) (g := 18) (t := 3) (zero := #[.int .i64 0]) h (of_decide_eq_true (by kernel_rfl)) (by kernel_rfl) rfl (by kernel_rfl) (by kernel_rfl) Tryd.underlying3
/-- A call's contract lifted to a row whose world is laid: the contract is handed what is laid and the world's shape. -/
theorem handed_shaped {H : Type} {enc : TypeId × Value → H} {a : Assume} {C : Checked} {os : Os} {f : FuncId} {fn : Func} {s : ChangeSpec} {conds : List PathCond} {apart fresh handsOn again : Bool} {X : World → Array Value → Prop}
    (hX : ∀ (w w' : World) (args : Array Value), w.heap = w'.heap → X w args → X w' args)
    (own : ownKnob C.prog.godebug = none) (started : os.Started) (noInit : C.prog.inits.idxOf? f = none) (hfn : C.prog.funcs[f]? = some fn)
    (witness : ∃ (w : World) (tape : Tape) (i : Input), w.os = os ∧ (w.forCall tape i).Shaped C.prog ∧ i.vars = [] ∧ Input.okWide C.prog (w.forCall tape i) .any w.heap.size f i ∧
      ((s.pre enc C.prog fn conds apart (w.forCall tape i).memory i.args ∧ X (w.forCall tape i).memory i.args) ∧ sizedMet enc C.prog fn (OpenSpec.ofChange s) apart (w.forCall tape i).memory i.args) ∧ a.holds C.prog (lone (Frame.enter C.prog f i.args .normal) [] (w.forCall tape i)))
    (contract : ∀ (W : World) (base : Nat) (args : Array Value) (ds gs : List (DataW H)) (before : List MemPlace),
      (∀ (j : Nat) t v, fn.params[j]? = some t → args[j]? = some v → Value.okWide C.prog W .any base t v) →
      DataW.Whole enc C.prog fn.params.toList s.vars apart W args.toList ds gs before → X W args → W.ShapedOpen C.prog →
      Calls C.prog f args W fun e W' => ∃ v, e = .returned v ∧ s.post enc C.prog fn apart fresh handsOn again W args v W') :
    ReturnsInHanded a C os f .any (fun w args => (s.pre enc C.prog fn conds apart w args ∧ X w args) ∧ sizedMet enc C.prog fn (OpenSpec.ofChange s) apart w args) (s.post enc C.prog fn apart fresh handsOn again) := by
  refine returnsInHanded_of_calls own started noInit witness ?_
  rintro w tape i _ hshape _ ⟨_, _, _, fn', hfn', _, _, _, _, hval⟩ ⟨⟨⟨ds, gs, before, hwhole, _⟩, hx⟩, _⟩ _
  obtain rfl : fn' = fn := Option.some.inj (hfn'.symm.trans hfn)
  refine (contract (w.forCall tape i) w.heap.size i.args ds gs before hval (DataW.Whole.of_heap (w' := w.forCall tape i) (by rfl) hwhole) (hX _ _ _ (by rfl) hx) hshape).mono ?_
  rintro e W' ⟨v, rfl, hp⟩
  exact ChangeSpec.post_blind hp
/-- A row's data: these texts. -/
def namesData {H : Type} (L : List (List UInt8)) : DataW H := .agg (L.map fun l => .lit (.string l))
theorem cells_of_names {H : Type} {enc : TypeId × Value → H} {P : Program} {w : World} {base : Nat} {sp : Nat → Bool} {held : Bool} {fuel : Nat} {t e : TypeId} {n : Nat} {cs : List Value} {zs : List (List UInt8)} {p : List MemPlace}
    (ht : P.underlying t = some (.array n e)) (he : P.underlying e = some .string) (hce : P.cellsOf e = 1) (hct : P.cellsOf t = n)
    (h : DataW.trod enc P w base sp held fuel t cs = some (namesData zs, p)) : cs = zs.map str := by
  cases fuel with
  | zero => simp [DataW.trod] at h
  | succ fuel =>
    simp only [DataW.trod, ht, hce, hct, Nat.mul_one] at h
    split at h
    · rename_i hl
      obtain ⟨xs, hm, hx⟩ := Option.map_eq_some_iff.1 h
      have hxs : xs.map (·.1) = zs.map fun z => (DataW.lit (.string z) : DataW H) := by
        have := congrArg Prod.fst hx
        simpa [namesData] using this
      have hxl : xs.length = n := by simpa using mapM_length hm
      have hzl : zs.length = n := by
        have := congrArg List.length hxs
        simp at this
        omega
      apply List.ext_getElem?
      intro i
      by_cases hi : i < n
      · obtain ⟨b, hb, hf⟩ := mapM_at hm i i (by simp [hi])
        obtain ⟨z, hc, hz, _⟩ := DataW.trod_string he hf
        have h1 : cs[i]? = some (.string z) := by
          have := congrArg (·[0]?) hc
          simpa [List.getElem?_take, List.getElem?_drop] using this
        have h2 : (xs.map (·.1))[i]? = some b.1 := by simp [hb]
        rw [hxs] at h2
        rw [hz] at h2
        simp only [List.getElem?_map, Option.map_eq_some_iff, DataW.lit.injEq, Lit.string.injEq] at h2
        obtain ⟨z', hz', e'⟩ := h2
        rw [h1, List.getElem?_map, hz', e']
        rfl
      · rw [List.getElem?_eq_none (by omega), List.getElem?_eq_none (by simp; omega)]
    · cases h
def signL : List (List UInt8) := [[], [10], [59], [38, 38], [124, 124], [124], [40], [41], [123], [125], [96, 123], [60], [62], [62, 62], [60, 60, 60], [94], [61], [33]]
theorem sgA_texts : sgA.toList = signL.map str := rfl
theorem gSg : Tryd.prog.globalNamed "patois/blex.signs" = some 1 := by kernel_rfl
theorem tSg : (Tryd.prog.globals[1]?).map (·.type) = some 75 := by kernel_rfl
theorem uSg : Tryd.prog.underlying 75 = some (.array 18 9) := by kernel_rfl
theorem uS : Tryd.prog.underlying 9 = some .string := by kernel_rfl
theorem cSg : Tryd.prog.cellsOf 75 = 18 := by kernel_rfl
theorem cS : Tryd.prog.cellsOf 9 = 1 := by kernel_rfl
theorem dSg : (Rows.laid_patois_blex_signs : DataW Unit) = namesData signL := by kernel_rfl
theorem sg_of_head {W : World} {rest : List (String × DataW Unit)} (h : laidMet Tryd.prog (("patois/blex.signs", namesData signL) :: rest) W) : ∃ (t : TypeId) (fr : Nat × Nat), W.heap[1]? = some (.cells sgA t fr) := by
  obtain ⟨ps, ⟨g', t', cs, fuel, p, q, hg', ht', hvar, hd, _, _⟩, _⟩ := h
  obtain rfl := Option.some.inj (gSg.symm.trans hg')
  obtain rfl := Option.some.inj (tSg.symm.trans ht')
  have hcs := cells_of_names uSg uS cS cSg hd
  unfold World.var? at hvar
  rw [gSg] at hvar
  simp only [Option.bind_some] at hvar
  cases hh : W.heap[1]? with
  | none => rw [hh] at hvar; cases hvar
  | some o =>
    rw [hh] at hvar
    cases o with
    | cells c t fr =>
      have e1 : c = cs := by simpa using hvar
      have e2 : cs = sgA := by
        apply Array.toList_inj.1
        rw [hcs, sgA_texts]
      exact ⟨t, fr, by rw [e1, e2]⟩
    | _ => cases hvar
end Go.Proofs.YtddekcohfbnmbaaDoor
