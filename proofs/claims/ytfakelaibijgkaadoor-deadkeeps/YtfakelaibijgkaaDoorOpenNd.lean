/- A list of nodes that came in, as the walks want it. -/
import Derived.Test.YtfakelaibijgkaaDoorMem
import Derived.ProofKit
import Derived.SliceStrings
import Derived.ChangeSlices
import Derived.ChangeSame
import Derived.SizedLaws
import Derived.OpenShut
namespace Go.Proofs.YtfakelaibijgkaaDoor
open Go.ChangeShapes Go.WideShapes Go.ChangeAt Go.RowKit

theorem laidOut3 : laidOutB Tryd.prog = true := by kernel_rfl
theorem cells3 : Tryd.prog.cellsOf 3 = 1 := by kernel_rfl
theorem cells9 : Tryd.prog.cellsOf 9 = 1 := by kernel_rfl
theorem cells28 : Tryd.prog.cellsOf 26 = 5 := by kernel_rfl
theorem bytes28 : Tryd.prog.bytesOf 26 = 48 := by kernel_rfl
theorem under28 : ∃ f0 f1 f2 f3 f4, Tryd.prog.underlying 26 = some (.struct #[f0, f1, f2, f3, f4]) ∧ (f0.type = 3 ∧ f0.offset = 0) ∧ (f1.type = 3 ∧ f1.offset = 1) ∧ (f2.type = 3 ∧ f2.offset = 2) ∧ (f3.type = 3 ∧ f3.offset = 3) ∧ (f4.type = 9 ∧ f4.offset = 4) := ⟨_, _, _, _, _, Tryd.underlying26, ⟨rfl, rfl⟩, ⟨rfl, rfl⟩, ⟨rfl, rfl⟩, ⟨rfl, rfl⟩, ⟨rfl, rfl⟩⟩
theorem five_of {cs : List Value} (h : cs.length = 5) : ∃ c0 c1 c2 c3 c4, cs = [c0, c1, c2, c3, c4] := by
  match cs, h with
  | [c0, c1, c2, c3, c4], _ => exact ⟨c0, c1, c2, c3, c4, rfl⟩
/-- Numbers of a node are within the machine's. -/
def I64 (n : Int) : Prop := -9223372036854775808 ≤ n ∧ n ≤ 9223372036854775807
structure NdIn (x : Nd) : Prop where
  kind : I64 x.kind
  n : I64 x.n
  k : I64 x.k
  size : I64 x.size
  s : x.s.length ≤ 140737488351232
theorem i64_wf {n : Int} (h : (Lit.int .i64 n).wf = true) : I64 n := by
  have h1 : (decide (IntKind.i64.min ≤ n) && decide (n ≤ IntKind.i64.max)) = true := h
  rw [show IntKind.i64.min = -9223372036854775808 by decide, show IntKind.i64.max = 9223372036854775807 by decide, Bool.and_eq_true] at h1
  exact ⟨of_decide_eq_true h1.1, of_decide_eq_true h1.2⟩
theorem weights_all {H : Type} (t : TypeId) (n : Nat) : ∀ (l : List (DataW H)) (d : DataW H), d ∈ l → n ∈ d.weights Tryd.prog t → n ∈ DataW.weightsAll Tryd.prog t l
  | [], _, h, _ => by simp at h
  | e :: l, d, h, hn => by
    unfold DataW.weightsAll
    rw [List.mem_append]
    rcases List.mem_cons.1 h with rfl | h
    · exact .inl hn
    · exact .inr (weights_all t n l d h hn)
/-- One node. -/
theorem nd_one {H : Type} {enc : TypeId × Value → H} {W : World} {n : Nat} {a : Addr} {y : DataW H × List MemPlace} (h : (W.cells? 0 a 5).bind (DataW.trod enc Tryd.prog W 0 (fun _ => true) true n 26) = some y) :
    ∃ p : Nd, (∀ i u, (ndC p)[i]? = some u → W.cell? (a.add i) = some u) ∧ p.s.length ∈ y.1.weights Tryd.prog 26 ∧ (p.s.length ≤ 140737488351232 → NdIn p) := by
  rw [Option.bind_eq_some_iff] at h
  obtain ⟨cs, hcs, hy⟩ := h
  obtain ⟨_, hlen, hc⟩ := World.cells?_some hcs
  obtain ⟨f0, f1, f2, f3, f4, hu, ⟨t0, o0⟩, ⟨t1, o1⟩, ⟨t2, o2⟩, ⟨t3, o3⟩, ⟨t4, o4⟩⟩ := under28
  obtain ⟨xs, m, _, hyx, hl, hxl, hf⟩ := DataW.trod_struct hu hy
  obtain ⟨c0, c1, c2, c3, c4, rfl⟩ := five_of hlen
  have g0 := hf 0 f0 rfl
  have g1 := hf 1 f1 rfl
  have g2 := hf 2 f2 rfl
  have g3 := hf 3 f3 rfl
  have g4 := hf 4 f4 rfl
  rw [t0, o0, cells3] at g0
  rw [t1, o1, cells3] at g1
  rw [t2, o2, cells3] at g2
  rw [t3, o3, cells3] at g3
  rw [t4, o4, cells9] at g4
  have hx : ∀ i, i < 5 → ∃ z, xs[i]? = some z := fun i hi => ⟨_, List.getElem?_eq_getElem (by rw [hxl]; exact hi)⟩
  obtain ⟨z0, e0⟩ := hx 0 (by omega)
  obtain ⟨z1, e1⟩ := hx 1 (by omega)
  obtain ⟨z2, e2⟩ := hx 2 (by omega)
  obtain ⟨z3, e3⟩ := hx 3 (by omega)
  obtain ⟨z4, e4⟩ := hx 4 (by omega)
  rw [e0] at g0
  rw [e1] at g1
  rw [e2] at g2
  rw [e3] at g3
  rw [e4] at g4
  obtain ⟨k, hk, _, wk⟩ := DataW.trod_int Tryd.underlying3 g0
  obtain ⟨q, hq, _, wq⟩ := DataW.trod_int Tryd.underlying3 g1
  obtain ⟨r, hr, _, wr⟩ := DataW.trod_int Tryd.underlying3 g2
  obtain ⟨z, hz, _, wz⟩ := DataW.trod_int Tryd.underlying3 g3
  obtain ⟨s, hs, hz4, ws⟩ := DataW.trod_string Tryd.underlying9 g4
  simp at hk hq hs hr hz
  subst hk hq hs hr hz
  refine ⟨⟨k, q, r, z, s.data.toList⟩, fun i u hiu => ?_, ?_, fun hsl => ⟨i64_wf wk, i64_wf wq, i64_wf wr, i64_wf wz, hsl⟩⟩
  rotate_left
  · rw [hyx]
    unfold DataW.weights
    rw [hu]
    refine DataW.weights_mem_each (j := 4) (t := 9) (d := .lit (.string s.data.toList)) ?_ ?_ _ ?_
    · simp [t4]
    · rw [List.getElem?_map, e4, hz4]
      rfl
    · simp [DataW.weights]
  have hi : i < 5 := by
    have := (List.getElem?_eq_some_iff.1 hiu).1
    simpa using this
  rw [hc i hi]
  exact hiu
/-- A list of nodes. -/
theorem open_nd {H : Type} {enc : TypeId × Value → H} {W : World} {a0 : Option Addr} {len cap fuel : Nat} {d : DataW H} {p : List MemPlace}
    (hf : DataW.trod enc Tryd.prog W 0 (fun _ => true) true fuel 22 [.slice a0 len cap] = some (d, p)) (hw : ∀ n ∈ d.weights Tryd.prog 22, n ≤ reachBytes) :
    ∃ X : List Nd, NdAt W (.slice a0 len cap) X ∧ (∀ x ∈ X, NdIn x) ∧ X.length ≤ 140737488351232 := by
  have hreach : reachBytes = 140737488351232 := by decide
  rcases DataW.trod_slice Tryd.underlying22 hf with ⟨hcs, _⟩ | ⟨a, len', cap', elems, rest, n, _, hcs, hd, hb, hl, hm, hlen, hel, _, _⟩
  · simp at hcs
    obtain ⟨rfl, rfl, rfl⟩ := hcs
    exact ⟨[], NdAt.nil _, fun p hp => by simp at hp, by simp⟩
  · simp at hcs
    obtain ⟨rfl, rfl, rfl⟩ := hcs
    rw [cells28] at hel
    simp only [Prod.mk.injEq] at hd
    obtain ⟨rfl, _⟩ := hd
    have hwt : ∀ n, n ∈ ((elems.map (·.1)).length + (rest.map (·.1)).length) * Tryd.prog.bytesOf 26 :: (DataW.weightsAll Tryd.prog 26 (elems.map (·.1)) ++ DataW.weightsAll Tryd.prog 26 (rest.map (·.1))) → n ≤ reachBytes := by
      intro n hn
      refine hw n ?_
      unfold DataW.weights
      rw [Tryd.underlying22]
      exact hn
    have hln := hwt _ (List.mem_cons_self ..)
    rw [bytes28, List.length_map] at hln
    have each : ∀ i, i < len → ∃ q : Nd, (∀ j u, (ndC q)[j]? = some u → W.cell? ((a.add (i * 5)).add j) = some u) ∧ NdIn q := by
      intro i hi
      have h := hel i hi
      rw [List.getElem?_eq_getElem (show i < elems.length by omega)] at h
      obtain ⟨q, h1, h2, h3⟩ := nd_one h
      have h4 := hwt _ (List.mem_cons_of_mem _ (List.mem_append_left _ (weights_all 26 q.s.length (elems.map (·.1)) _ (List.mem_map.2 ⟨_, List.getElem_mem (show i < elems.length by omega), rfl⟩) h2)))
      exact ⟨q, h1, h3 (by omega)⟩
    by_cases h0 : len = 0
    · subst h0
      exact ⟨[], .inl ⟨rfl, .inr ⟨_, cap, rfl⟩⟩, fun p hp => by simp at hp, by simp⟩
    · obtain ⟨b, off, spot⟩ := a
      have hspot : spot = none := by
        obtain ⟨q, h1, _⟩ := each 0 (by omega)
        simpa [Addr.add] using World.cell?_spot (h1 0 _ rfl)
      subst hspot
      obtain ⟨f, hfn⟩ : ∃ f : Nat → Nd, ∀ i, i < len → (∀ j u, (ndC (f i))[j]? = some u → W.cell? (((⟨b, off, none⟩ : Addr).add (i * 5)).add j) = some u) ∧ NdIn (f i) :=
        ⟨fun i => if h : i < len then (each i h).choose else ⟨0, 0, 0, 0, []⟩, fun i hi => by
          have h := (each i hi).choose_spec
          simpa only [dif_pos hi] using h⟩
      refine ⟨(List.range len).map f, .inr ⟨b, off, cap, by simp, by simpa using hl, ?_, fun j cs hj i u hu => ?_⟩, fun p hp => ?_, by simp; omega⟩
      · exact World.block_lt_of_cell? W (((⟨b, off, none⟩ : Addr).add (0 * 5)).add 0) ((hfn 0 (by omega)).1 0 _ rfl)
      · have hjl : j < len := by
          have := (List.getElem?_eq_some_iff.1 hj).1
          simpa using this
        rw [List.getElem?_map, List.getElem?_map, List.getElem?_range hjl] at hj
        simp only [Option.map_some, Option.some.injEq] at hj
        subst hj
        have h := (hfn j hjl).1 i u hu
        simp only [Addr.add_lit] at h
        exact h
      · obtain ⟨i, hi, rfl⟩ := List.mem_map.1 hp
        exact (hfn i (List.mem_range.1 hi)).2
end Go.Proofs.YtfakelaibijgkaaDoor
