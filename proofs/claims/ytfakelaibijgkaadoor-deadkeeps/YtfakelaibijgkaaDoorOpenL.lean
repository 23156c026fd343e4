/- Lists of texts and of numbers that came in. -/
import Derived.Test.YtfakelaibijgkaaDoorOpenNd
import Derived.ProofKit
import Derived.SliceStrings
import Derived.ChangeSlices
import Derived.SizedLaws
import Derived.OpenShut
namespace Go.Proofs.YtfakelaibijgkaaDoor
open Go.ChangeShapes Go.WideShapes Go.ChangeAt Go.RowKit

theorem bytes9 : Tryd.prog.bytesOf 9 = 16 := by kernel_rfl
def Tx (W : World) (v : Value) (ps : List Txt) : Prop :=
  (v = .slice none 0 0 ∧ ps = []) ∨
  ∃ (ad : Addr) (cap : Nat), v = .slice (some ad) ps.length cap ∧ ps.length ≤ cap ∧
    (ps ≠ [] → ∃ g o, ad = ⟨g, o, none⟩ ∧ g < W.heap.size ∧ ∀ k p, ps[k]? = some p → W.cell? ⟨g, o + k, none⟩ = some (.string ⟨p.toArray⟩))
theorem Tx.below {W W' : World} {v : Value} {ps : List Txt} {B : Nat} (h : Tx W v ps) (hb : Below B W W') (hB : W.heap.size ≤ B) : Tx W' v ps := by
  rcases h with h | ⟨ad, cap, h1, h2, h3⟩
  · exact .inl h
  · refine .inr ⟨ad, cap, h1, h2, fun hne => ?_⟩
    obtain ⟨g, o, rfl, h4, h5⟩ := h3 hne
    exact ⟨g, o, rfl, Nat.lt_of_lt_of_le h4 hb.size, fun k p hp => (hb.cell (p := ⟨g, o + k, none⟩) (by show g < B; omega)).trans (h5 k p hp)⟩
def In (W : World) (v : Value) (zs : List Int) : Prop :=
  (v = .slice none 0 0 ∧ zs = []) ∨
  ∃ (ad : Addr) (cap : Nat), v = .slice (some ad) zs.length cap ∧ zs.length ≤ cap ∧ (zs ≠ [] → ∃ g o, ad = ⟨g, o, none⟩ ∧ g < W.heap.size ∧ ∀ k p, zs[k]? = some p → W.cell? ⟨g, o + k, none⟩ = some (.int .i64 p))
theorem In.below {W W' : World} {v : Value} {ps : List Int} {B : Nat} (h : In W v ps) (hb : Below B W W') (hB : W.heap.size ≤ B) : In W' v ps := by
  rcases h with h | ⟨ad, cap, h1, h2, h3⟩
  · exact .inl h
  · refine .inr ⟨ad, cap, h1, h2, fun hne => ?_⟩
    obtain ⟨g, o, rfl, h4, h5⟩ := h3 hne
    exact ⟨g, o, rfl, Nat.lt_of_lt_of_le h4 hb.size, fun k p hp => (hb.cell (p := ⟨g, o + k, none⟩) (by show g < B; omega)).trans (h5 k p hp)⟩
theorem weights_texts {H : Type} (l : List ByteArray) : ∀ s ∈ l, s.size ∈ DataW.weightsAll (H := H) Tryd.prog 9 (strs l) := by
  induction l with
  | nil => intro s hs; simp at hs
  | cons t l ih =>
    intro s hs
    unfold strs
    rw [List.map_cons]
    unfold DataW.weightsAll
    rw [List.mem_append]
    rcases List.mem_cons.1 hs with rfl | hs
    · left
      simp [DataW.weights]
    · right
      exact ih s hs

/-- A list of texts that came in, nil or not; none of them longer than may be. -/
theorem open_tx {H : Type} {enc : TypeId × Value → H} {W : World} {a0 : Option Addr} {len cap fuel : Nat} {d : DataW H} {p : List MemPlace}
    (hf : DataW.trod enc Tryd.prog W 0 (fun _ => true) true fuel 38 [.slice a0 len cap] = some (d, p)) (hw : ∀ n ∈ d.weights Tryd.prog 38, n ≤ reachBytes) :
    ∃ ns : List Txt, Tx W (.slice a0 len cap) ns ∧ ns.length < 140737488355328 ∧ ∀ s ∈ ns, s.length ≤ 140737488355328 := by
  have hreach : reachBytes = 140737488351232 := by decide
  rcases open_strings Tryd.underlying38 Tryd.underlying9 cells9 hf with ⟨hcs, _⟩ | ⟨a, len', cap', ss, hcs, _, hl, hm, hz, hx, hcell, _⟩
  · simp at hcs
    obtain ⟨rfl, rfl, rfl⟩ := hcs
    exact ⟨[], .inl ⟨rfl, rfl⟩, by simp, fun s hs => by simp at hs⟩
  · simp at hcs
    obtain ⟨rfl, rfl, rfl⟩ := hcs
    simp only [if_true] at hz
    simp only [Prod.mk.injEq] at hx
    obtain ⟨rfl, _⟩ := hx
    have hlen : ((ss.take len).map (·.data.toList)).length = len := by simp; omega
    have hwt : ∀ n, n ∈ ((strs (H := H) (ss.take len)).length + (strs (H := H) (ss.drop len)).length) * Tryd.prog.bytesOf 9 :: (DataW.weightsAll Tryd.prog 9 (strs (H := H) (ss.take len)) ++ DataW.weightsAll Tryd.prog 9 (strs (H := H) (ss.drop len))) → n ≤ reachBytes := by
      intro n hn
      refine hw n ?_
      unfold DataW.weights
      rw [Tryd.underlying38]
      exact hn
    have h1 := hwt _ (List.mem_cons_self ..)
    rw [bytes9] at h1
    have h2 : (strs (H := H) (ss.take len)).length = len := by simp [strs]; omega
    refine ⟨(ss.take len).map (·.data.toList), .inr ⟨a, cap, by rw [hlen], by rw [hlen]; exact hl, fun hne => ?_⟩, by rw [hlen]; omega, fun s hs => ?_⟩
    · have h0 : 0 < len := by
        rcases Nat.eq_zero_or_pos len with h | h
        · subst h; simp at hne
        · exact h
      obtain ⟨b, off, spot⟩ := a
      have hspot : spot = none := by simpa [Addr.add] using World.cell?_spot (hcell 0 (by omega))
      subst hspot
      refine ⟨b, off, rfl, block_lt_of_cell (hcell 0 (by omega)), fun k p hp => ?_⟩
      have hk : k < len := by
        have := (List.getElem?_eq_some_iff.1 hp).1
        omega
      have hks : k < ss.length := by omega
      have hp2 : p = (ss.getD k ByteArray.empty).data.toList := by
        rw [List.getElem?_map, List.getElem?_take_of_lt hk, List.getElem?_eq_getElem hks] at hp
        cases hp
        simp [List.getD, List.getElem?_eq_getElem hks]
      rw [hp2, ← Addr.add_lit]
      have := hcell k hks
      rw [this]
    · obtain ⟨t, ht, rfl⟩ := List.mem_map.1 hs
      have h3 := hwt t.size (List.mem_cons_of_mem _ (List.mem_append_left _ (weights_texts (H := H) _ t ht)))
      rw [Array.length_toList]
      show t.size ≤ _
      omega

theorem bytes3 : Tryd.prog.bytesOf 3 = 8 := by kernel_rfl
/-- A list of numbers that came in. -/
theorem open_in {H : Type} {enc : TypeId × Value → H} {W : World} {a0 : Option Addr} {len cap fuel : Nat} {d : DataW H} {p : List MemPlace}
    (hf : DataW.trod enc Tryd.prog W 0 (fun _ => true) true fuel 32 [.slice a0 len cap] = some (d, p)) (hw : ∀ n ∈ d.weights Tryd.prog 32, n ≤ reachBytes) :
    ∃ ns : List Int, In W (.slice a0 len cap) ns ∧ ns.length < 140737488355328 := by
  have hreach : reachBytes = 140737488351232 := by decide
  rcases open_ints Tryd.underlying32 Tryd.underlying3 cells3 hf with ⟨hcs, _⟩ | ⟨a, len', cap', zs, hcs, _, hl, hm, hz, hx, hcell, _⟩
  · simp at hcs
    obtain ⟨rfl, rfl, rfl⟩ := hcs
    exact ⟨[], .inl ⟨rfl, rfl⟩, by simp⟩
  · simp at hcs
    obtain ⟨rfl, rfl, rfl⟩ := hcs
    simp only [if_true] at hz
    simp only [Prod.mk.injEq] at hx
    obtain ⟨rfl, _⟩ := hx
    have hlen : (zs.take len).length = len := by simp; omega
    have h1 : (zs.take len).length + (zs.drop len).length ≤ 140737488351232 := by
      have h2 := hw (((zs.take len).length + (zs.drop len).length) * 8) (by
        unfold DataW.weights
        rw [Tryd.underlying32]
        simp only [bytes3, lits, List.length_map]
        exact List.mem_cons_self ..)
      omega
    refine ⟨zs.take len, .inr ⟨a, cap, by rw [hlen], by rw [hlen]; exact hl, fun hne => ?_⟩, by omega⟩
    have h0 : 0 < len := by
      rcases Nat.eq_zero_or_pos len with h | h
      · subst h; simp at hne
      · exact h
    obtain ⟨b, off, spot⟩ := a
    have hspot : spot = none := by simpa [Addr.add] using World.cell?_spot (hcell 0 (by omega))
    subst hspot
    refine ⟨b, off, rfl, block_lt_of_cell (hcell 0 (by omega)), fun k p hp => ?_⟩
    have hk : k < len := by
      have := (List.getElem?_eq_some_iff.1 hp).1
      omega
    have hks : k < zs.length := by omega
    have hp2 : p = zs.getD k 0 := by
      rw [List.getElem?_take_of_lt hk, List.getElem?_eq_getElem hks] at hp
      cases hp
      simp [List.getD, List.getElem?_eq_getElem hks]
    rw [hp2, ← Addr.add_lit]
    exact hcell k hks
end Go.Proofs.YtfakelaibijgkaaDoor
