/- A list of lists of nodes that came in, as the walks want it. -/
import Derived.Test.YtgabodcbhjcmiaaDoorOpenNd
namespace Go.Proofs.YtgabodcbhjcmiaaDoor
open Go.ChangeShapes Go.WideShapes Go.ChangeAt Go.RowKit

theorem cells25 : Tryd.prog.cellsOf 25 = 1 := by kernel_rfl
theorem bytes25 : Tryd.prog.bytesOf 25 = 24 := by kernel_rfl
/-- One list of nodes within something that came in. -/
theorem kd_one {H : Type} {enc : TypeId × Value → H} {W : World} {n : Nat} {a : Addr} {y : DataW H × List MemPlace} (h : (W.cells? 0 a 1).bind (DataW.trod enc Tryd.prog W 0 (fun _ => true) true n 25) = some y) (hw : ∀ n ∈ y.1.weights Tryd.prog 25, n ≤ reachBytes) :
    ∃ p : Value × List Nd, W.cell? a = some p.1 ∧ NdAt W p.1 p.2 ∧ (∀ x ∈ p.2, NdIn x) ∧ p.2.length ≤ 140737488351232 := by
  rw [Option.bind_eq_some_iff] at h
  obtain ⟨cs, hcs, hy⟩ := h
  obtain ⟨_, hlen, hc⟩ := World.cells?_some hcs
  obtain ⟨v, rfl⟩ : ∃ v, cs = [v] := by
    match cs, hlen with
    | [v], _ => exact ⟨v, rfl⟩
  have hv : ∃ a0 len cap, v = .slice a0 len cap := by
    rcases DataW.trod_slice Tryd.underlying25 hy with ⟨hcs, _⟩ | ⟨a', len', cap', _, _, _, _, hcs, _⟩
    · simp at hcs
      exact ⟨_, _, _, hcs⟩
    · simp at hcs
      exact ⟨_, _, _, hcs⟩
  obtain ⟨a0, len, cap, rfl⟩ := hv
  obtain ⟨d, p⟩ := y
  obtain ⟨X, h1, h2, h3⟩ := open_nd hy hw
  refine ⟨(.slice a0 len cap, X), ?_, h1, h2, h3⟩
  have := hc 0 (by omega)
  simpa [Addr.add] using this
/-- A list of lists of nodes. -/
theorem open_kd {H : Type} {enc : TypeId × Value → H} {W : World} {a0 : Option Addr} {len cap fuel : Nat} {d : DataW H} {p : List MemPlace}
    (hf : DataW.trod enc Tryd.prog W 0 (fun _ => true) true fuel 22 [.slice a0 len cap] = some (d, p)) (hw : ∀ n ∈ d.weights Tryd.prog 22, n ≤ reachBytes) :
    ∃ K : List (Value × List Nd), KdAt W (.slice a0 len cap) K ∧ (∀ q ∈ K, (∀ x ∈ q.2, NdIn x) ∧ q.2.length ≤ 140737488351232) ∧ K.length ≤ 140737488351232 := by
  have hreach : reachBytes = 140737488351232 := by decide
  rcases DataW.trod_slice Tryd.underlying22 hf with ⟨hcs, _⟩ | ⟨a, len', cap', elems, rest, n, _, hcs, hd, hb, hl, hm, hlen, hel, _, _⟩
  · simp at hcs
    obtain ⟨rfl, rfl, rfl⟩ := hcs
    exact ⟨[], KdAt.nil _, fun p hp => by simp at hp, by simp⟩
  · simp at hcs
    obtain ⟨rfl, rfl, rfl⟩ := hcs
    rw [cells25] at hel
    simp only [Prod.mk.injEq] at hd
    obtain ⟨rfl, _⟩ := hd
    have hwt : ∀ n, n ∈ ((elems.map (·.1)).length + (rest.map (·.1)).length) * Tryd.prog.bytesOf 25 :: (DataW.weightsAll Tryd.prog 25 (elems.map (·.1)) ++ DataW.weightsAll Tryd.prog 25 (rest.map (·.1))) → n ≤ reachBytes := by
      intro n hn
      refine hw n ?_
      unfold DataW.weights
      rw [Tryd.underlying22]
      exact hn
    have hln := hwt _ (List.mem_cons_self ..)
    rw [bytes25, List.length_map] at hln
    have each : ∀ i, i < len → ∃ q : Value × List Nd, W.cell? (a.add (i * 1)) = some q.1 ∧ NdAt W q.1 q.2 ∧ (∀ x ∈ q.2, NdIn x) ∧ q.2.length ≤ 140737488351232 := by
      intro i hi
      have h := hel i hi
      rw [List.getElem?_eq_getElem (show i < elems.length by omega)] at h
      exact kd_one h (fun n hn => hwt _ (List.mem_cons_of_mem _ (List.mem_append_left _ (weights_all 25 n (elems.map (·.1)) _ (List.mem_map.2 ⟨_, List.getElem_mem (show i < elems.length by omega), rfl⟩) hn))))
    by_cases h0 : len = 0
    · subst h0
      exact ⟨[], ⟨.inl ⟨rfl, .inr ⟨_, cap, rfl⟩⟩, fun p hp => by simp at hp⟩, fun p hp => by simp at hp, by simp⟩
    · obtain ⟨b, off, spot⟩ := a
      have hspot : spot = none := by
        obtain ⟨q, h1, _⟩ := each 0 (by omega)
        simpa [Addr.add] using World.cell?_spot h1
      subst hspot
      obtain ⟨f, hfn⟩ : ∃ f : Nat → Value × List Nd, ∀ i, i < len → W.cell? ((⟨b, off, none⟩ : Addr).add (i * 1)) = some (f i).1 ∧ NdAt W (f i).1 (f i).2 ∧ (∀ x ∈ (f i).2, NdIn x) ∧ (f i).2.length ≤ 140737488351232 :=
        ⟨fun i => if h : i < len then (each i h).choose else (.nilIface, []), fun i hi => by
          have h := (each i hi).choose_spec
          simpa only [dif_pos hi] using h⟩
      refine ⟨(List.range len).map f, ⟨.inr ⟨b, off, cap, by simp, by simpa using hl, ?_, fun j cs hj i u hu => ?_⟩, fun p hp => ?_⟩, fun p hp => ?_, by simp; omega⟩
      · exact World.block_lt_of_cell? W ((⟨b, off, none⟩ : Addr).add (0 * 1)) (hfn 0 (by omega)).1
      · have hjl : j < len := by
          have := (List.getElem?_eq_some_iff.1 hj).1
          simpa using this
        rw [List.getElem?_map, List.getElem?_map, List.getElem?_range hjl] at hj
        simp only [Option.map_some, Option.some.injEq] at hj
        subst hj
        cases i with
        | succ i => simp at hu
        | zero =>
          simp at hu
          subst hu
          have h := (hfn j hjl).1
          simp only [Addr.add_lit] at h
          exact h
      · obtain ⟨i, hi, rfl⟩ := List.mem_map.1 hp
        exact (hfn i (List.mem_range.1 hi)).2.1
      · obtain ⟨i, hi, rfl⟩ := List.mem_map.1 hp
        exact (hfn i (List.mem_range.1 hi)).2.2
end Go.Proofs.YtgabodcbhjcmiaaDoor
