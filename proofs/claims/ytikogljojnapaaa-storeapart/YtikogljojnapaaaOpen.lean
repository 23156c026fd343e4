/- A list of nodes that came in, as the walks want it. -/
import Derived.Test.YtikogljojnapaaaStore
import Derived.ProofKit
import Derived.SliceStrings
import Derived.ChangeSlices
import Derived.ChangeSame
import Derived.SizedLaws
import Derived.OpenShut
namespace Go.Proofs.Ytikogljojnapaaa
open Go.ChangeShapes Go.WideShapes Go.ChangeAt Go.RowKit

theorem laidOut3 : laidOutB Try.prog = true := by kernel_rfl
theorem cells3 : Try.prog.cellsOf 3 = 1 := by kernel_rfl
theorem cells9 : Try.prog.cellsOf 9 = 1 := by kernel_rfl
theorem cells58 : Try.prog.cellsOf 58 = 5 := by kernel_rfl
theorem bytes58 : Try.prog.bytesOf 58 = 48 := by kernel_rfl
theorem under58 : ∃ f0 f1 f2 f3 f4, Try.prog.underlying 58 = some (.struct #[f0, f1, f2, f3, f4]) ∧ (f0.type = 3 ∧ f0.offset = 0) ∧ (f1.type = 3 ∧ f1.offset = 1) ∧ (f2.type = 3 ∧ f2.offset = 2) ∧ (f3.type = 3 ∧ f3.offset = 3) ∧ (f4.type = 9 ∧ f4.offset = 4) := ⟨_, _, _, _, _, Try.underlying58, ⟨rfl, rfl⟩, ⟨rfl, rfl⟩, ⟨rfl, rfl⟩, ⟨rfl, rfl⟩, ⟨rfl, rfl⟩⟩
theorem five_of {cs : List Value} (h : cs.length = 5) : ∃ c0 c1 c2 c3 c4, cs = [c0, c1, c2, c3, c4] := by
  match cs, h with
  | [c0, c1, c2, c3, c4], _ => exact ⟨c0, c1, c2, c3, c4, rfl⟩
/-- Numbers of a node are within the machine's. -/
def I64 (n : Int) : Prop := -9223372036854775808 ≤ n ∧ n ≤ 9223372036854775807
structure NdIn (x : Nd) : Prop where
  kind : I64 x.kind
  n : I64 x.n
  k : I64 x.k
  size : I64 x.size
  s : x.s.length ≤ 140737488351232
theorem i64_wf {n : Int} (h : (Lit.int .i64 n).wf = true) : I64 n := by
  have h1 : (decide (IntKind.i64.min ≤ n) && decide (n ≤ IntKind.i64.max)) = true := h
  rw [show IntKind.i64.min = -9223372036854775808 by decide, show IntKind.i64.max = 9223372036854775807 by decide, Bool.and_eq_true] at h1
  exact ⟨of_decide_eq_true h1.1, of_decide_eq_true h1.2⟩
theorem weights_all {H : Type} (t : TypeId) (n : Nat) : ∀ (l : List (DataW H)) (d : DataW H), d ∈ l → n ∈ d.weights Try.prog t → n ∈ DataW.weightsAll Try.prog t l
  | [], _, h, _ => by simp at h
  | e :: l, d, h, hn => by
    unfold DataW.weightsAll
    rw [List.mem_append]
    rcases List.mem_cons.1 h with rfl | h
    · exact .inl hn
    · exact .inr (weights_all t n l d h hn)
/-- One node. -/
theorem nd_one {H : Type} {enc : TypeId × Value → H} {W : World} {n : Nat} {a : Addr} {y : DataW H × List MemPlace} (h : (W.cells? 0 a 5).bind (DataW.trod enc Try.prog W 0 (fun _ => true) true n 58) = some y) :
    ∃ p : Nd, (∀ i u, (ndC p)[i]? = some u → W.cell? (a.add i) = some u) ∧ p.s.length ∈ y.1.weights Try.prog 58 ∧ (p.s.length ≤ 140737488351232 → NdIn p) := by
  rw [Option.bind_eq_some_iff] at h
  obtain ⟨cs, hcs, hy⟩ := h
  obtain ⟨_, hlen, hc⟩ := World.cells?_some hcs
  obtain ⟨f0, f1, f2, f3, f4, hu, ⟨t0, o0⟩, ⟨t1, o1⟩, ⟨t2, o2⟩, ⟨t3, o3⟩, ⟨t4, o4⟩⟩ := under58
  obtain ⟨xs, m, _, hyx, hl, hxl, hf⟩ := DataW.trod_struct hu hy
  obtain ⟨c0, c1, c2, c3, c4, rfl⟩ := five_of hlen
  have g0 := hf 0 f0 rfl
  have g1 := hf 1 f1 rfl
  have g2 := hf 2 f2 rfl
  have g3 := hf 3 f3 rfl
  have g4 := hf 4 f4 rfl
  rw [t0, o0, cells3] at g0
  rw [t1, o1, cells3] at g1
  rw [t2, o2, cells3] at g2
  rw [t3, o3, cells3] at g3
  rw [t4, o4, cells9] at g4
  have hx : ∀ i, i < 5 → ∃ z, xs[i]? = some z := fun i hi => ⟨_, List.getElem?_eq_getElem (by rw [hxl]; exact hi)⟩
  obtain ⟨z0, e0⟩ := hx 0 (by omega)
  obtain ⟨z1, e1⟩ := hx 1 (by omega)
  obtain ⟨z2, e2⟩ := hx 2 (by omega)
  obtain ⟨z3, e3⟩ := hx 3 (by omega)
  obtain ⟨z4, e4⟩ := hx 4 (by omega)
  rw [e0] at g0
  rw [e1] at g1
  rw [e2] at g2
  rw [e3] at g3
  rw [e4] at g4
  obtain ⟨k, hk, _, wk⟩ := DataW.trod_int Try.underlying3 g0
  obtain ⟨q, hq, _, wq⟩ := DataW.trod_int Try.underlying3 g1
  obtain ⟨r, hr, _, wr⟩ := DataW.trod_int Try.underlying3 g2
  obtain ⟨z, hz, _, wz⟩ := DataW.trod_int Try.underlying3 g3
  obtain ⟨s, hs, hz4, ws⟩ := DataW.trod_string Try.underlying9 g4
  simp at hk hq hs hr hz
  subst hk hq hs hr hz
  refine ⟨⟨k, q, r, z, s.data.toList⟩, fun i u hiu => ?_, ?_, fun hsl => ⟨i64_wf wk, i64_wf wq, i64_wf wr, i64_wf wz, hsl⟩⟩
  rotate_left
  · rw [hyx]
    unfold DataW.weights
    rw [hu]
    refine DataW.weights_mem_each (j := 4) (t := 9) (d := .lit (.string s.data.toList)) ?_ ?_ _ ?_
    · simp [t4]
    · rw [List.getElem?_map, e4, hz4]
      rfl
    · simp [DataW.weights]
  have hi : i < 5 := by
    have := (List.getElem?_eq_some_iff.1 hiu).1
    simpa using this
  rw [hc i hi]
  exact hiu
/-- A list of texts that came in, nil or not. -/
theorem open_texts {H : Type} {enc : TypeId × Value → H} {W : World} {a0 : Option Addr} {len cap fuel : Nat} {x : DataW H × List MemPlace}
    (hf : DataW.trod enc Try.prog W 0 (fun _ => true) true fuel 29 [.slice a0 len cap] = some x) :
    ∃ ns : List (List UInt8), Tx W (.slice a0 len cap) ns ∧ len = ns.length ∧ len ≤ maxLen ∧ ∀ s ∈ ns, s.length ≤ maxLen := by
  rcases open_strings Try.underlying29 Try.underlying9 cells9 hf with ⟨hcs, _⟩ | ⟨a, len', cap', ss, hcs, _, hl, hm, hz, _, hcell, hsz⟩
  · simp at hcs
    obtain ⟨rfl, rfl, rfl⟩ := hcs
    exact ⟨[], .inl ⟨rfl, rfl⟩, rfl, Nat.zero_le _, fun s hs => by simp at hs⟩
  · simp at hcs
    obtain ⟨rfl, rfl, rfl⟩ := hcs
    simp only [if_true] at hz
    have hlen : ((ss.take len).map (·.data.toList)).length = len := by simp; omega
    refine ⟨(ss.take len).map (·.data.toList), .inr ⟨a, cap, by rw [hlen], by rw [hlen]; exact hl, fun hne => ?_⟩, hlen.symm, by omega, fun s hs => ?_⟩
    · have h0 : 0 < len := by
        rcases Nat.eq_zero_or_pos len with h | h
        · subst h; simp at hne
        · exact h
      obtain ⟨b, off, spot⟩ := a
      have hspot : spot = none := by simpa [Addr.add] using World.cell?_spot (hcell 0 (by omega))
      subst hspot
      refine ⟨b, off, rfl, block_lt_of_cell (hcell 0 (by omega)), fun k p hp => ?_⟩
      have hk : k < len := by
        have := (List.getElem?_eq_some_iff.1 hp).1
        omega
      have hks : k < ss.length := by omega
      have hp2 : p = (ss.getD k ByteArray.empty).data.toList := by
        rw [List.getElem?_map, List.getElem?_take_of_lt hk, List.getElem?_eq_getElem hks] at hp
        cases hp
        simp [List.getD, List.getElem?_eq_getElem hks]
      rw [hp2, ← Addr.add_lit]
      have := hcell k hks
      rw [this]
    · obtain ⟨t, ht, rfl⟩ := List.mem_map.1 hs
      have h3 := hsz t (List.mem_of_mem_take ht)
      rw [Array.length_toList]
      exact h3
/-- A list of nodes. -/
theorem open_nodes {H : Type} {enc : TypeId × Value → H} {W : World} {a0 : Option Addr} {len cap fuel : Nat} {d : DataW H} {p : List MemPlace}
    (hf : DataW.trod enc Try.prog W 0 (fun _ => true) true fuel 38 [.slice a0 len cap] = some (d, p)) :
    ∃ X : List Nd, NdAt W (.slice a0 len cap) X ∧ len = X.length ∧ len ≤ maxLen := by
  rcases DataW.trod_slice Try.underlying38 hf with ⟨hcs, _⟩ | ⟨a, len', cap', elems, rest, n, _, hcs, hd, hb, hl, hm, hlen, hel, _, _⟩
  · simp at hcs
    obtain ⟨rfl, rfl, rfl⟩ := hcs
    exact ⟨[], NdAt.nil _, rfl, Nat.zero_le _⟩
  · simp at hcs
    obtain ⟨rfl, rfl, rfl⟩ := hcs
    rw [cells58] at hel
    have each : ∀ i, i < len → ∃ q : Nd, (∀ j u, (ndC q)[j]? = some u → W.cell? ((a.add (i * 5)).add j) = some u) := by
      intro i hi
      have h := hel i hi
      rw [List.getElem?_eq_getElem (show i < elems.length by omega)] at h
      obtain ⟨q, h1, _, _⟩ := nd_one h
      exact ⟨q, h1⟩
    by_cases h0 : len = 0
    · subst h0
      exact ⟨[], .inl ⟨rfl, .inr ⟨_, cap, rfl⟩⟩, rfl, Nat.zero_le _⟩
    · obtain ⟨b, off, spot⟩ := a
      have hspot : spot = none := by
        obtain ⟨q, h1⟩ := each 0 (by omega)
        simpa [Addr.add] using World.cell?_spot (h1 0 _ rfl)
      subst hspot
      obtain ⟨f, hfn⟩ : ∃ f : Nat → Nd, ∀ i, i < len → (∀ j u, (ndC (f i))[j]? = some u → W.cell? (((⟨b, off, none⟩ : Addr).add (i * 5)).add j) = some u) :=
        ⟨fun i => if h : i < len then (each i h).choose else ⟨0, 0, 0, 0, []⟩, fun i hi => by
          have h := (each i hi).choose_spec
          simpa only [dif_pos hi] using h⟩
      refine ⟨(List.range len).map f, .inr ⟨b, off, cap, by simp, by simpa using hl, ?_, fun j cs hj i u hu => ?_⟩, by simp, by omega⟩
      · exact World.block_lt_of_cell? W (((⟨b, off, none⟩ : Addr).add (0 * 5)).add 0) (hfn 0 (by omega) 0 _ rfl)
      · have hjl : j < len := by
          have := (List.getElem?_eq_some_iff.1 hj).1
          simpa using this
        rw [List.getElem?_map, List.getElem?_map, List.getElem?_range hjl] at hj
        simp only [Option.map_some, Option.some.injEq] at hj
        subst hj
        have h := hfn j hjl i u hu
        simp only [Addr.add_lit] at h
        exact h
end Go.Proofs.Ytikogljojnapaaa
