/- Lists of texts, several, that came in. -/
import Derived.Test.YtdajacodfnidfaaGreatDoorRLB
import Derived.Test.YtdajacodfnidfaaGreatDoorLists
import Derived.ProofKit
import Derived.SliceStrings
import Derived.SizedLaws
import Derived.OpenShut
import Derived.Test.YtdajacodfnidfaaGreatDoorLstB
import Derived.ChangeSame
/-! The texts of the errors; the seventeen are others each. -/
namespace Go.Proofs.YtdajacodfnidfaaGreatDoor
open Go.RowKit

def textE : Nat → List UInt8
  | 0 => [116, 111, 111, 32, 98, 105, 103]
  | 1 => [116, 111, 111, 32, 108, 111, 110, 103]
  | 2 => [110, 101, 115, 116, 101, 100, 32, 116, 111, 111, 32, 100, 101, 101, 112]
  | 3 => [97, 32, 113, 117, 111, 116, 101, 32, 116, 104, 97, 116, 32, 100, 111, 101, 115, 32, 110, 111, 116, 32, 101, 110, 100]
  | 4 => [97, 32, 98, 114, 97, 99, 107, 101, 116, 32, 116, 104, 97, 116, 32, 100, 111, 101, 115, 32, 110, 111, 116, 32, 101, 110, 100]
  | 5 => [97, 32, 98, 114, 97, 99, 101, 32, 116, 104, 97, 116, 32, 100, 111, 101, 115, 32, 110, 111, 116, 32, 101, 110, 100]
  | 6 => [110, 111, 32, 110, 97, 109, 101]
  | 7 => [110, 111, 32, 116, 111, 107, 101, 110]
  | 8 => [105, 116, 32, 100, 111, 101, 115, 32, 110, 111, 116, 32, 115, 116, 97, 110, 100, 32, 104, 101, 114, 101]
  | 9 => [105, 116, 32, 101, 110, 100, 115, 32, 116, 111, 111, 32, 101, 97, 114, 108, 121]
  | 10 => [110, 111, 32, 112, 114, 111, 103, 114, 97, 109]
  | 11 => [116, 111, 111, 32, 109, 97, 110, 121]
  | 12 => [116, 111, 111, 32, 109, 97, 110, 121, 32, 115, 116, 101, 112, 115]
  | 13 => [99, 97, 108, 108, 101, 100, 32, 116, 111, 111, 32, 100, 101, 101, 112]
  | 14 => [105, 116, 32, 99, 97, 110, 110, 111, 116, 32, 98, 101, 32, 115, 97, 105, 100]
  | 15 => [110, 111, 32, 99, 111, 100, 101]
  | 16 => [110, 111, 32, 115, 117, 99, 104, 32, 110, 117, 109, 98, 101, 114]
  | _ => []
theorem textE_inj : ∀ i, i < 17 → ∀ j, j < 17 → textE i = textE j → i = j := by decide
theorem ers_of {W : World} {ea : Nat → Addr} (h : ∀ i, i < 17 → W.cell? ⟨gE i, 0, none⟩ = some (errV (ea i)) ∧ (∃ s, W.cell? (ea i) = some (.string s) ∧ s.data.toList = textE i) ∧ ∃ c t, W.heap[(ea i).block]? = some (.cells c t (0, 0))) : Er17 W ea := by
  refine ⟨fun i hi => (h i hi).1, fun i j hi hj e => ?_, fun i hi => (h i hi).2.2⟩
  obtain ⟨s, h1, h2⟩ := (h i hi).2.1
  obtain ⟨s', h3, h4⟩ := (h j hj).2.1
  rw [e, h3] at h1
  cases h1
  exact textE_inj i hi j hj (h2.symm.trans h4)
end Go.Proofs.YtdajacodfnidfaaGreatDoor
/-! A list of texts that came in, as the walks want it. -/
namespace Go.Proofs.YtdajacodfnidfaaGreatDoor
open Go.ChangeShapes Go.WideShapes Go.ChangeAt Go.RowKit

theorem cells9 : Tryz.prog.cellsOf 9 = 1 := by kernel_rfl
theorem bytes9 : Tryz.prog.bytesOf 9 = 16 := by kernel_rfl
theorem laidOut3 : laidOutB Tryz.prog = true := by kernel_rfl

theorem weights_texts {H : Type} (l : List ByteArray) : ∀ s ∈ l, s.size ∈ DataW.weightsAll (H := H) Tryz.prog 9 (strs l) := by
  induction l with
  | nil => intro s hs; simp at hs
  | cons t l ih =>
    intro s hs
    unfold strs
    rw [List.map_cons]
    unfold DataW.weightsAll
    rw [List.mem_append]
    rcases List.mem_cons.1 hs with rfl | hs
    · left
      simp [DataW.weights]
    · right
      exact ih s hs

/-- A list of texts that came in, nil or not; none of them longer than may be. -/
theorem open_tx {H : Type} {enc : TypeId × Value → H} {W : World} {a0 : Option Addr} {len cap fuel : Nat} {d : DataW H} {p : List MemPlace}
    (hf : DataW.trod enc Tryz.prog W 0 (fun _ => true) true fuel 23 [.slice a0 len cap] = some (d, p)) (hw : ∀ n ∈ d.weights Tryz.prog 23, n ≤ reachBytes) :
    ∃ ns : List (List UInt8), Tx W (.slice a0 len cap) ns ∧ ns.length < 140737488355328 ∧ ∀ s ∈ ns, s.length ≤ 140737488355328 := by
  have hreach : reachBytes = 140737488351232 := by decide
  rcases open_strings Tryz.underlying23 Tryz.underlying9 cells9 hf with ⟨hcs, _⟩ | ⟨a, len', cap', ss, hcs, _, hl, hm, hz, hx, hcell, _⟩
  · simp at hcs
    obtain ⟨rfl, rfl, rfl⟩ := hcs
    exact ⟨[], .inl ⟨rfl, rfl⟩, by simp, fun s hs => by simp at hs⟩
  · simp at hcs
    obtain ⟨rfl, rfl, rfl⟩ := hcs
    simp only [if_true] at hz
    simp only [Prod.mk.injEq] at hx
    obtain ⟨rfl, _⟩ := hx
    have hlen : ((ss.take len).map (·.data.toList)).length = len := by simp; omega
    have hwt : ∀ n, n ∈ ((strs (H := H) (ss.take len)).length + (strs (H := H) (ss.drop len)).length) * Tryz.prog.bytesOf 9 :: (DataW.weightsAll Tryz.prog 9 (strs (H := H) (ss.take len)) ++ DataW.weightsAll Tryz.prog 9 (strs (H := H) (ss.drop len))) → n ≤ reachBytes := by
      intro n hn
      refine hw n ?_
      unfold DataW.weights
      rw [Tryz.underlying23]
      exact hn
    have h1 := hwt _ (List.mem_cons_self ..)
    rw [bytes9] at h1
    have h2 : (strs (H := H) (ss.take len)).length = len := by simp [strs]; omega
    refine ⟨(ss.take len).map (·.data.toList), .inr ⟨a, cap, by rw [hlen], by rw [hlen]; exact hl, fun hne => ?_⟩, by rw [hlen]; omega, fun s hs => ?_⟩
    · have h0 : 0 < len := by
        rcases Nat.eq_zero_or_pos len with h | h
        · subst h; simp at hne
        · exact h
      obtain ⟨b, off, spot⟩ := a
      have hspot : spot = none := by simpa [Addr.add] using World.cell?_spot (hcell 0 (by omega))
      subst hspot
      refine ⟨b, off, rfl, block_lt_of_cell (hcell 0 (by omega)), fun k p hp => ?_⟩
      have hk : k < len := by
        have := (List.getElem?_eq_some_iff.1 hp).1
        omega
      have hks : k < ss.length := by omega
      have hp2 : p = (ss.getD k ByteArray.empty).data.toList := by
        rw [List.getElem?_map, List.getElem?_take_of_lt hk, List.getElem?_eq_getElem hks] at hp
        cases hp
        simp [List.getD, List.getElem?_eq_getElem hks]
      rw [hp2, ← Addr.add_lit]
      have := hcell k hks
      rw [this]
    · obtain ⟨t, ht, rfl⟩ := List.mem_map.1 hs
      have h3 := hwt t.size (List.mem_cons_of_mem _ (List.mem_append_left _ (weights_texts (H := H) _ t ht)))
      rw [Array.length_toList]
      show t.size ≤ _
      omega
end Go.Proofs.YtdajacodfnidfaaGreatDoor
namespace Go.Proofs.YtdajacodfnidfaaGreatDoor
open Go.ChangeShapes Go.WideShapes Go.ChangeAt Go.RowKit Go.Shelf

theorem cells23 : Tryz.prog.cellsOf 23 = 1 := by kernel_rfl
theorem bytes23 : Tryz.prog.bytesOf 23 = 24 := by kernel_rfl
theorem weights_all {H : Type} (e : TypeId) (m : Nat) : ∀ (l : List (DataW H)) (d : DataW H), d ∈ l → m ∈ d.weights Tryz.prog e → m ∈ DataW.weightsAll Tryz.prog e l
  | [], _, h, _ => by simp at h
  | x :: l, d, h, hm => by
    unfold DataW.weightsAll
    rw [List.mem_append]
    rcases List.mem_cons.1 h with rfl | h
    · exact .inl hm
    · exact .inr (weights_all e m l d h hm)
/-- What is known of a list that came in. -/
def TxGood (W : World) (q : Value × List (List UInt8)) : Prop := Tx W q.1 q.2 ∧ q.2.length < 140737488355328 ∧ ∀ s ∈ q.2, s.length ≤ 140737488355328
theorem tx_one {H : Type} {enc : TypeId × Value → H} {W : World} (n : Nat) (a : Addr) (y : DataW H × List MemPlace) (h : (W.cells? 0 a 1).bind (DataW.trod enc Tryz.prog W 0 (fun _ => true) true n 23) = some y) (hw : ∀ m ∈ y.1.weights Tryz.prog 23, m ≤ reachBytes) :
    ∃ q : Value × List (List UInt8), W.cell? (a.add 0) = some q.1 ∧ TxGood W q := by
  rw [Option.bind_eq_some_iff] at h
  obtain ⟨cs, hcs, hy⟩ := h
  obtain ⟨_, hlen, hc⟩ := World.cells?_some hcs
  match cs, hlen with
  | [c], _ =>
    have h0 := hc 0 (by omega)
    rcases open_strings Tryz.underlying23 Tryz.underlying9 cells9 hy with ⟨hcs', _⟩ | ⟨b, len, cap, ss, hcs', _⟩
    · obtain rfl : c = .slice none 0 0 := by simpa using hcs'
      exact ⟨(.slice none 0 0, []), h0, .inl ⟨rfl, rfl⟩, by simp, fun s hs => by simp at hs⟩
    · obtain rfl : c = .slice (some b) len cap := by simpa using hcs'
      obtain ⟨ns, t1, t2, t3⟩ := open_tx hy hw
      exact ⟨(_, ns), h0, t1, t2, t3⟩
/-- Lists of texts that came in. -/
theorem open_tss {H : Type} {enc : TypeId × Value → H} {W : World} {a0 : Option Addr} {len cap fuel : Nat} {d : DataW H} {p : List MemPlace}
    (hf : DataW.trod enc Tryz.prog W 0 (fun _ => true) true fuel 22 [.slice a0 len cap] = some (d, p)) (hw : ∀ n ∈ d.weights Tryz.prog 22, n ≤ reachBytes) :
    ∃ ls : List (List (List UInt8)), Tss W (.slice a0 len cap) ls ∧ ls.length ≤ 140737488355328 ∧ (∀ l ∈ ls, l.length < 140737488355328) ∧ ∀ l ∈ ls, ∀ s ∈ l, s.length ≤ 140737488355328 := by
  have hreach : reachBytes = 140737488351232 := by decide
  rcases DataW.trod_slice Tryz.underlying22 hf with ⟨hcs, _⟩ | ⟨a, len', cap', elems, rest, n, _, hcs, hd, hb, hl, hm, hlen, hel, _, _⟩
  · simp at hcs
    obtain ⟨rfl, rfl, rfl⟩ := hcs
    exact ⟨[], ⟨0, 0, none, 0, rfl, Nat.le_refl _, fun e => absurd rfl e, fun k l hk => by simp at hk⟩, by simp, fun l h => by simp at h, fun l h => by simp at h⟩
  · simp at hcs
    obtain ⟨rfl, rfl, rfl⟩ := hcs
    rw [cells23] at hel
    simp only [Prod.mk.injEq] at hd
    obtain ⟨rfl, _⟩ := hd
    have each : ∀ i, i < len → ∃ q : Value × List (List UInt8), W.cell? ((a.add (i * 1)).add 0) = some q.1 ∧ TxGood W q := by
      intro i hi
      have h := hel i hi
      have hil : i < elems.length := by omega
      rw [List.getElem?_eq_getElem hil] at h
      refine tx_one _ _ _ h fun m hm => hw m ?_
      unfold DataW.weights
      rw [Tryz.underlying22]
      exact List.mem_cons_of_mem _ (List.mem_append_left _ (weights_all 23 m (elems.map (·.1)) _ (List.mem_map.2 ⟨_, List.getElem_mem hil, rfl⟩) hm))
    have hlb : len ≤ 140737488355328 := by
      have h1 := hw (((elems.map (·.1)).length + (rest.map (·.1)).length) * Tryz.prog.bytesOf 23) (by
        unfold DataW.weights
        rw [Tryz.underlying22]
        exact List.mem_cons_self ..)
      rw [List.length_map, List.length_map, bytes23] at h1
      omega
    by_cases hl0 : len = 0
    · subst hl0
      exact ⟨[], ⟨0, 0, _, cap, rfl, Nat.zero_le _, fun e => absurd rfl e, fun k l hk => by simp at hk⟩, by simp, fun l h => by simp at h, fun l h => by simp at h⟩
    · obtain ⟨b, off, spot⟩ := a
      have hspot : spot = none := by
        obtain ⟨q, h1, _⟩ := each 0 (by omega)
        simpa [Addr.add] using World.cell?_spot h1
      subst hspot
      obtain ⟨f, hfn⟩ : ∃ f : Nat → Value × List (List UInt8), ∀ i, i < len → W.cell? (((⟨b, off, none⟩ : Addr).add (i * 1)).add 0) = some (f i).1 ∧ TxGood W (f i) :=
        ⟨fun i => if h : i < len then (each i h).choose else (.slice none 0 0, []), fun i hi => by
          have h := (each i hi).choose_spec
          simpa only [dif_pos hi] using h⟩
      have hln : ((List.range len).map fun i => (f i).2).length = len := by simp
      have hmem : ∀ l ∈ (List.range len).map fun i => (f i).2, ∃ i, i < len ∧ (f i).2 = l := fun l hl' => by
        obtain ⟨i, hi, rfl⟩ := List.mem_map.1 hl'
        exact ⟨i, List.mem_range.1 hi, rfl⟩
      refine ⟨(List.range len).map fun i => (f i).2, ⟨b, off, _, cap, by rw [hln], by rw [hln]; exact hl, fun _ => ⟨rfl, ?_⟩, fun k l hk => ?_⟩, by rw [hln]; exact hlb, fun l hl' => ?_, fun l hl' => ?_⟩
      · have := (hfn 0 (by omega)).1
        simp only [Addr.add_lit] at this
        exact World.block_lt_of_cell? W ⟨b, _, none⟩ this
      · have hkl : k < len := by
          have := (List.getElem?_eq_some_iff.1 hk).1
          rw [hln] at this
          exact this
        rw [List.getElem?_map, List.getElem?_range hkl] at hk
        simp only [Option.map_some, Option.some.injEq] at hk
        subst hk
        have h := (hfn k hkl).1
        simp only [Addr.add_lit, Nat.mul_one, Nat.add_zero] at h
        exact ⟨_, h, (hfn k hkl).2.1⟩
      · obtain ⟨i, hi, rfl⟩ := hmem l hl'
        exact (hfn i hi).2.2.1
      · obtain ⟨i, hi, rfl⟩ := hmem l hl'
        exact (hfn i hi).2.2.2
end Go.Proofs.YtdajacodfnidfaaGreatDoor
