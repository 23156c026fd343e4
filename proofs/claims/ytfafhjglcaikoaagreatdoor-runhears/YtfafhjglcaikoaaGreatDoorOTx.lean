/- A list of texts that came in, as the walks want it. -/
import Derived.Test.YtfafhjglcaikoaaGreatDoorH38
import Derived.ProofKit
import Derived.SliceStrings
import Derived.SizedLaws
import Derived.OpenShut
namespace Go.Proofs.YtfafhjglcaikoaaGreatDoor
open Go.ChangeShapes Go.WideShapes Go.ChangeAt Go.RowKit

theorem cells9 : Tryz.prog.cellsOf 9 = 1 := by kernel_rfl
theorem bytes9 : Tryz.prog.bytesOf 9 = 16 := by kernel_rfl
theorem laidOut3 : laidOutB Tryz.prog = true := by kernel_rfl

theorem weights_texts {H : Type} (l : List ByteArray) : ∀ s ∈ l, s.size ∈ DataW.weightsAll (H := H) Tryz.prog 9 (strs l) := by
  induction l with
  | nil => intro s hs; simp at hs
  | cons t l ih =>
    intro s hs
    unfold strs
    rw [List.map_cons]
    unfold DataW.weightsAll
    rw [List.mem_append]
    rcases List.mem_cons.1 hs with rfl | hs
    · left
      simp [DataW.weights]
    · right
      exact ih s hs

/-- A list of texts that came in, nil or not; none of them longer than may be. -/
theorem open_tx {H : Type} {enc : TypeId × Value → H} {W : World} {a0 : Option Addr} {len cap fuel : Nat} {d : DataW H} {p : List MemPlace}
    (hf : DataW.trod enc Tryz.prog W 0 (fun _ => true) true fuel 23 [.slice a0 len cap] = some (d, p)) (hw : ∀ n ∈ d.weights Tryz.prog 23, n ≤ reachBytes) :
    ∃ ns : List (List UInt8), Tx W (.slice a0 len cap) ns ∧ ns.length < 140737488355328 ∧ ∀ s ∈ ns, s.length ≤ 140737488355328 := by
  have hreach : reachBytes = 140737488351232 := by decide
  rcases open_strings Tryz.underlying23 Tryz.underlying9 cells9 hf with ⟨hcs, _⟩ | ⟨a, len', cap', ss, hcs, _, hl, hm, hz, hx, hcell, _⟩
  · simp at hcs
    obtain ⟨rfl, rfl, rfl⟩ := hcs
    exact ⟨[], .inl ⟨rfl, rfl⟩, by simp, fun s hs => by simp at hs⟩
  · simp at hcs
    obtain ⟨rfl, rfl, rfl⟩ := hcs
    simp only [if_true] at hz
    simp only [Prod.mk.injEq] at hx
    obtain ⟨rfl, _⟩ := hx
    have hlen : ((ss.take len).map (·.data.toList)).length = len := by simp; omega
    have hwt : ∀ n, n ∈ ((strs (H := H) (ss.take len)).length + (strs (H := H) (ss.drop len)).length) * Tryz.prog.bytesOf 9 :: (DataW.weightsAll Tryz.prog 9 (strs (H := H) (ss.take len)) ++ DataW.weightsAll Tryz.prog 9 (strs (H := H) (ss.drop len))) → n ≤ reachBytes := by
      intro n hn
      refine hw n ?_
      unfold DataW.weights
      rw [Tryz.underlying23]
      exact hn
    have h1 := hwt _ (List.mem_cons_self ..)
    rw [bytes9] at h1
    have h2 : (strs (H := H) (ss.take len)).length = len := by simp [strs]; omega
    refine ⟨(ss.take len).map (·.data.toList), .inr ⟨a, cap, by rw [hlen], by rw [hlen]; exact hl, fun hne => ?_⟩, by rw [hlen]; omega, fun s hs => ?_⟩
    · have h0 : 0 < len := by
        rcases Nat.eq_zero_or_pos len with h | h
        · subst h; simp at hne
        · exact h
      obtain ⟨b, off, spot⟩ := a
      have hspot : spot = none := by simpa [Addr.add] using World.cell?_spot (hcell 0 (by omega))
      subst hspot
      refine ⟨b, off, rfl, block_lt_of_cell (hcell 0 (by omega)), fun k p hp => ?_⟩
      have hk : k < len := by
        have := (List.getElem?_eq_some_iff.1 hp).1
        omega
      have hks : k < ss.length := by omega
      have hp2 : p = (ss.getD k ByteArray.empty).data.toList := by
        rw [List.getElem?_map, List.getElem?_take_of_lt hk, List.getElem?_eq_getElem hks] at hp
        cases hp
        simp [List.getD, List.getElem?_eq_getElem hks]
      rw [hp2, ← Addr.add_lit]
      have := hcell k hks
      rw [this]
    · obtain ⟨t, ht, rfl⟩ := List.mem_map.1 hs
      have h3 := hwt t.size (List.mem_cons_of_mem _ (List.mem_append_left _ (weights_texts (H := H) _ t ht)))
      rw [Array.length_toList]
      show t.size ≤ _
      omega
end Go.Proofs.YtfafhjglcaikoaaGreatDoor
