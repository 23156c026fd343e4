/- The errors and the signs lie in the variables, out of what the card lays. -/
import Derived.Test.YtnlbjgioleoihaaGreatDoorRows
import Derived.Test.YtnlbjgioleoihaaGreatDoorRd4
import Derived.Lib.LaidTab
import Derived.ProofKit
import Derived.Carry
import Derived.LaidMore
import Derived.OpenShut
namespace Go.Proofs.YtnlbjgioleoihaaGreatDoor
open Go.RowKit Go.Lib
/-- The text of the error in a variable. -/
def textE : Nat → List UInt8
  | 0 => [116, 111, 111, 32, 108, 111, 110, 103]
  | 2 => [110, 111, 32, 116, 111, 107, 101, 110]
  | 4 => [110, 101, 115, 116, 101, 100, 32, 116, 111, 111, 32, 100, 101, 101, 112]
  | 3 => [97, 32, 113, 117, 111, 116, 101, 32, 116, 104, 97, 116, 32, 100, 111, 101, 115, 32, 110, 111, 116, 32, 101, 110, 100]
  | 5 => [97, 32, 98, 114, 97, 99, 107, 101, 116, 32, 116, 104, 97, 116, 32, 100, 111, 101, 115, 32, 110, 111, 116, 32, 101, 110, 100]
  | 6 => [97, 32, 98, 114, 97, 99, 101, 32, 116, 104, 97, 116, 32, 100, 111, 101, 115, 32, 110, 111, 116, 32, 101, 110, 100]
  | 7 => [110, 111, 32, 110, 97, 109, 101]
  | 8 => [105, 116, 32, 100, 111, 101, 115, 32, 110, 111, 116, 32, 115, 116, 97, 110, 100, 32, 104, 101, 114, 101]
  | 9 => [105, 116, 32, 101, 110, 100, 115, 32, 116, 111, 111, 32, 101, 97, 114, 108, 121]
  | 10 => [110, 111, 32, 112, 114, 111, 103, 114, 97, 109]
  | 11 => [116, 111, 111, 32, 109, 97, 110, 121]
  | 12 => [116, 111, 111, 32, 109, 97, 110, 121, 32, 115, 116, 101, 112, 115]
  | 13 => [99, 97, 108, 108, 101, 100, 32, 116, 111, 111, 32, 100, 101, 101, 112]
  | 14 => [116, 111, 111, 32, 98, 105, 103]
  | 15 => [105, 116, 32, 99, 97, 110, 110, 111, 116, 32, 98, 101, 32, 115, 97, 105, 100]
  | 16 => [110, 111, 32, 99, 111, 100, 101]
  | 17 => [110, 111, 32, 115, 117, 99, 104, 32, 110, 117, 109, 98, 101, 114]
  | _ => []
theorem textE_all : ∀ i, i < 18 → ∀ j, j < 18 → (i = 1 ∨ j = 1 ∨ textE i ≠ textE j ∨ i = j) := by decide
theorem textE_inj (i : Nat) (hi : i < 18) (j : Nat) (hj : j < 18) (h1 : i ≠ 1) (h2 : j ≠ 1) (h : textE i = textE j) : i = j := by
  rcases textE_all i hi j hj with e | e | e | e
  · exact absurd e h1
  · exact absurd e h2
  · exact absurd h e
  · exact e
theorem env_of {W : World} {ea : Nat → Addr} (h : ∀ i, i < 18 → i ≠ 1 → W.cell? ⟨i, 0, none⟩ = some (errV (ea i)) ∧ (∃ s, W.cell? (ea i) = some (.string s) ∧ s.data.toList = textE i) ∧ ∃ c t, W.heap[(ea i).block]? = some (.cells c t (0, 0)))
    (hs : ∃ (t : TypeId) (fr : Nat × Nat), W.heap[1]? = some (.cells sgA t fr)) (h64 : ea 64 = ⟨W.heap.size, 0, none⟩) : Env W ea where
  cell i hi h1 := (h i hi h1).1
  apart i j hi hj h1 h2 e := by
    obtain ⟨s, a1, a2⟩ := (h i hi h1).2.1
    obtain ⟨s', a3, a4⟩ := (h j hj h2).2.1
    rw [e, a3] at a1
    cases a1
    exact textE_inj i hi j hj h1 h2 (a2.symm.trans a4)
  row i hi h1 := (h i hi h1).2.2
  glob := by
    have := World.block_lt_of_cell? W _ (h 17 (by omega) (by decide)).1
    rw [h64]
    exact this
  old i hi h1 := by
    obtain ⟨c, t, hc⟩ := (h i hi h1).2.2
    rw [h64]
    exact (Array.getElem?_eq_some_iff.1 hc).1
  sg := hs
/-- A row's data: these texts. -/
def namesData {H : Type} (L : List (List UInt8)) : DataW H := .agg (L.map fun l => .lit (.string l))
theorem cells_of_names {H : Type} {enc : TypeId × Value → H} {P : Program} {w : World} {base : Nat} {sp : Nat → Bool} {held : Bool} {fuel : Nat} {t e : TypeId} {n : Nat} {cs : List Value} {zs : List (List UInt8)} {p : List MemPlace}
    (ht : P.underlying t = some (.array n e)) (he : P.underlying e = some .string) (hce : P.cellsOf e = 1) (hct : P.cellsOf t = n)
    (h : DataW.trod enc P w base sp held fuel t cs = some (namesData zs, p)) : cs = zs.map str := by
  cases fuel with
  | zero => simp [DataW.trod] at h
  | succ fuel =>
    simp only [DataW.trod, ht, hce, hct, Nat.mul_one] at h
    split at h
    · rename_i hl
      obtain ⟨xs, hm, hx⟩ := Option.map_eq_some_iff.1 h
      have hxs : xs.map (·.1) = zs.map fun z => (DataW.lit (.string z) : DataW H) := by
        have := congrArg Prod.fst hx
        simpa [namesData] using this
      have hxl : xs.length = n := by simpa using mapM_length hm
      have hzl : zs.length = n := by
        have := congrArg List.length hxs
        simp at this
        omega
      apply List.ext_getElem?
      intro i
      by_cases hi : i < n
      · obtain ⟨b, hb, hf⟩ := mapM_at hm i i (by simp [hi])
        obtain ⟨z, hc, hz, _⟩ := DataW.trod_string he hf
        have h1 : cs[i]? = some (.string z) := by
          have := congrArg (·[0]?) hc
          simpa [List.getElem?_take, List.getElem?_drop] using this
        have h2 : (xs.map (·.1))[i]? = some b.1 := by simp [hb]
        rw [hxs] at h2
        rw [hz] at h2
        simp only [List.getElem?_map, Option.map_eq_some_iff, DataW.lit.injEq, Lit.string.injEq] at h2
        obtain ⟨z', hz', e'⟩ := h2
        rw [h1, List.getElem?_map, hz', e']
        rfl
      · rw [List.getElem?_eq_none (by omega), List.getElem?_eq_none (by simp; omega)]
    · cases h
def signL : List (List UInt8) := [[], [10], [59], [59, 59], [38, 38], [124, 124], [124], [40], [41], [60], [62], [62, 62], [60, 60, 60]]
theorem sgA_list : sgA.toList = signL.map str := rfl
theorem gSg : Tryz.prog.globalNamed "patois/alex.signs" = some 1 := by kernel_rfl
theorem tSg : (Tryz.prog.globals[1]?).map (·.type) = some 67 := by kernel_rfl
theorem uSg : Tryz.prog.underlying 67 = some (.array 13 9) := by kernel_rfl
theorem uS : Tryz.prog.underlying 9 = some .string := by kernel_rfl
theorem cSg : Tryz.prog.cellsOf 67 = 13 := by kernel_rfl
theorem cS : Tryz.prog.cellsOf 9 = 1 := by kernel_rfl
theorem dSg : (Rows.laid_patois_alex_signs : DataW Unit) = namesData signL := by kernel_rfl
theorem sg_of_head {W : World} {rest : List (String × DataW Unit)} (h : laidMet Tryz.prog (("patois/alex.signs", namesData signL) :: rest) W) : ∃ (t : TypeId) (fr : Nat × Nat), W.heap[1]? = some (.cells sgA t fr) := by
  obtain ⟨ps, ⟨g', t', cs, fuel, p, q, hg', ht', hvar, hd, _, _⟩, _⟩ := h
  obtain rfl := Option.some.inj (gSg.symm.trans hg')
  obtain rfl := Option.some.inj (tSg.symm.trans ht')
  have hcs := cells_of_names uSg uS cS cSg hd
  unfold World.var? at hvar
  rw [gSg] at hvar
  simp only [Option.bind_some] at hvar
  cases hh : W.heap[1]? with
  | none => rw [hh] at hvar; cases hvar
  | some o =>
    rw [hh] at hvar
    cases o with
    | cells c t fr =>
      have e1 : c = cs := by simpa using hvar
      have e2 : cs = sgA := by
        apply Array.toList_inj.1
        rw [hcs, sgA_list]
      exact ⟨t, fr, by rw [e1, e2]⟩
    | _ => cases hvar
end Go.Proofs.YtnlbjgioleoihaaGreatDoor
