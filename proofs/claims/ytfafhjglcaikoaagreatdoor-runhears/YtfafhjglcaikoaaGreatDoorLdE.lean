/- The errors that the cards lay: each points to a text of its own. -/
import Derived.Test.YtfafhjglcaikoaaGreatDoorH38
import Derived.Lib.LaidTab
import Derived.Lib.TrailingZeros
import Derived.JoinedOf
namespace Go.Proofs.YtfafhjglcaikoaaGreatDoor
open Go.RowKit

def textE : Nat → Txt
  | 0 => [99, 97, 108, 108, 101, 100, 32, 116, 111, 111, 32, 100, 101, 101, 112]
  | 1 => [116, 111, 111, 32, 98, 105, 103]
  | 2 => [116, 111, 111, 32, 109, 97, 110, 121, 32, 115, 116, 101, 112, 115]
  | 4 => [116, 111, 111, 32, 109, 97, 110, 121]
  | 5 => [110, 111, 32, 112, 114, 111, 103, 114, 97, 109]
  | 6 => [110, 101, 115, 116, 101, 100, 32, 116, 111, 111, 32, 100, 101, 101, 112]
  | 7 => [116, 104, 101, 32, 114, 117, 110, 32, 105, 115, 32, 101, 110, 100, 101, 100]
  | 8 => [110, 111, 32, 115, 117, 99, 104, 32, 110, 117, 109, 98, 101, 114]
  | 9 => [110, 111, 32, 110, 97, 109, 101]
  | 10 => [116, 111, 111, 32, 108, 111, 110, 103]
  | _ => []
theorem textE_inj : ∀ i, i < 11 → ∀ j, j < 11 → i = 3 ∨ j = 3 ∨ (textE i = textE j → i = j) := by decide
theorem erx_of {W : World} {ea : Nat → Addr} (h : ∀ i, i < 11 ∧ i ≠ 3 → W.cell? ⟨i, 0, none⟩ = some (errV (ea i)) ∧ (∃ s, W.cell? (ea i) = some (.string s) ∧ s.data.toList = textE i) ∧ ∃ c t, W.heap[(ea i).block]? = some (.cells c t (0, 0))) : ErX W ea := by
  refine ⟨fun i hi => ⟨(h i hi).1, World.block_lt_of_cell? W _ (h i hi).1⟩, fun i j hi hj e => ?_, fun i hi => (h i hi).2.2⟩
  obtain ⟨s, h1, h2⟩ := (h i hi).2.1
  obtain ⟨s', h3, h4⟩ := (h j hj).2.1
  rw [e, h3] at h1
  cases h1
  exact ((textE_inj i hi.1 j hj.1).resolve_left hi.2).resolve_left hj.2 (h2.symm.trans h4)
def tab64 : List Int := Lib.deBruijn64tab.map Int.ofNat
open Go.ChangeShapes Go.WideShapes in
/-- The closed facts of a row, one by one. -/
theorem joined_of {P : Program} {f : FuncId} {fn : Func} {s : ChangeSpec} {c : OpenClaim} (h0 : (c.wf (OpenSpec.ofChange s)) = true) (h1 : (laidOutB P) = true) (h2 : (mapsRowed P) = true) (h3 : (fn.params.all (P.readableRec ·)) = true) (h4 : (namedTie P c.named s.vars) = true) (h5 : ((c.stops == [])) = true) (h6 : ((P.stops == [])) = true) (h7 : ((c.knobs == [])) = true) (h8 : ((P.stopKnobs == [])) = true) (h9 : ((c.inPlace == P.inPlace f)) = true) (h10 : ((c.unfollowed == P.unfollowed f)) = true) (h11 : ((c.recurses == P.recurses f)) = true) (h12 : ((c.named == P.varsNamed f)) = true) (h13 : ((c.maps == (fn.params.toList ++ s.plain.varTypes P).any (P.mapsRec ·))) = true) (h14 : ((c.ifaces == (fn.params.toList ++ s.plain.varTypes P).any (P.ifacesRec ·))) = true) (h15 : ((c.mapsOut == P.mapsAmong fn.resultTypes.toList)) = true) (h16 : ((c.loops == (fn.params.toList ++ s.plain.varTypes P).any (P.loopsFrom ·))) = true) (h17 : ((c.wideKeys == (fn.params.toList ++ s.plain.varTypes P ++ fn.resultTypes.toList).any (P.wideKeysFrom ·))) = true) (h18 : (s.vars.all (P.varReadable ·)) = true) (h19 : (fn.resultTypes.all (fun t => P.readableRec t && decide (t < P.types.size))) = true) (h20 : ((c.ifacesOut == fn.resultTypes.toList.any (P.ifacesRec ·))) = true) (h21 : ((c.loopsOut == fn.resultTypes.toList.any (P.loopsFrom ·))) = true) (h22 : ((c.plainKeys == P.plainKeys)) = true) (h23 : (c.shortTexts.isNone) = true) (h24 : (P.stopsHeard) = true) (h25 : (P.mayEnter) = true) (h26 : ((c.lifted == P.liftsFinal)) = true) (h27 : ((P.make == some c.make)) = true) (h28 : ((c.kinds == (if c.domain.isEmpty then [] else fn.params.toList.map fun t => match P.underlying t with | some (.int k) => some k | _ => none))) = true) (h29 : ((c.pinned == c.pinnedBy)) = true) (h30 : ((c.veiled == (fn.params.toList ++ s.plain.varTypes P ++ fn.resultTypes.toList).any (P.veiledRec ·))) = true) (h31 : (c.veiledFits P fn.params.toList (fn.params.toList ++ s.plain.varTypes P ++ fn.resultTypes.toList)) = true) : joinedFacts P f fn s c = true := by
  unfold joinedFacts
  simp only [Bool.and_eq_true]
  exact ⟨⟨⟨⟨⟨⟨⟨⟨⟨⟨⟨⟨⟨⟨⟨⟨⟨⟨⟨⟨⟨⟨⟨⟨⟨⟨⟨⟨⟨⟨⟨h0, h1⟩, h2⟩, h3⟩, h4⟩, h5⟩, h6⟩, h7⟩, h8⟩, h9⟩, h10⟩, h11⟩, h12⟩, h13⟩, h14⟩, h15⟩, h16⟩, h17⟩, h18⟩, h19⟩, h20⟩, h21⟩, h22⟩, h23⟩, h24⟩, h25⟩, h26⟩, h27⟩, h28⟩, h29⟩, h30⟩, h31⟩
end Go.Proofs.YtfafhjglcaikoaaGreatDoor
