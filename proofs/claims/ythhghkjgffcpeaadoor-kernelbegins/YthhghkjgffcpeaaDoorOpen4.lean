/- Events that came in, as the walks want them. -/
import Derived.Test.YthhghkjgffcpeaaDoorOpen2
import Derived.Test.YthhghkjgffcpeaaDoorBeg2
import Derived.ChangeSame
namespace Go.Proofs.YthhghkjgffcpeaaDoor
open Go.ChangeShapes Go.WideShapes Go.ChangeAt Go.RowKit

theorem cells70 : Tryd.prog.cellsOf 70 = 5 := by kernel_rfl
theorem cells39 : Tryd.prog.cellsOf 39 = 1 := by kernel_rfl
theorem under70 : ∃ f0 f1 f2 f3 f4, Tryd.prog.underlying 70 = some (.struct #[f0, f1, f2, f3, f4]) ∧ (f0.type = 3 ∧ f0.offset = 0) ∧ (f1.type = 3 ∧ f1.offset = 1) ∧ (f2.type = 9 ∧ f2.offset = 2) ∧ (f3.type = 9 ∧ f3.offset = 3) ∧ (f4.type = 39 ∧ f4.offset = 4) := ⟨_, _, _, _, _, Tryd.underlying70, ⟨rfl, rfl⟩, ⟨rfl, rfl⟩, ⟨rfl, rfl⟩, ⟨rfl, rfl⟩, ⟨rfl, rfl⟩⟩
theorem five_of {cs : List Value} (h : cs.length = 5) : ∃ c0 c1 c2 c3 c4, cs = [c0, c1, c2, c3, c4] := by
  match cs, h with
  | [c0, c1, c2, c3, c4], _ => exact ⟨c0, c1, c2, c3, c4, rfl⟩
/-- A list of texts within something that came in. -/
theorem tx_in {H : Type} {enc : TypeId × Value → H} {W : World} {fuel : Nat} {cs : List Value} {x : DataW H × List MemPlace}
    (hf : DataW.trod enc Tryd.prog W 0 (fun _ => true) true fuel 39 cs = some x) : ∃ v ns, cs = [v] ∧ Tx W v ns := by
  rcases open_strings Tryd.underlying39 Tryd.underlying9 cells9 hf with ⟨hcs, _⟩ | ⟨a, len, cap, ss, hcs, _, hl, hm, hz, hx, hcell, _⟩
  · exact ⟨_, [], hcs, .inl ⟨rfl, rfl⟩⟩
  · simp only [if_true] at hz
    have hlen : ((ss.take len).map (·.data.toList)).length = len := by simp; omega
    refine ⟨_, (ss.take len).map (·.data.toList), hcs, .inr ⟨a, cap, by rw [hlen], by rw [hlen]; exact hl, fun hne => ?_⟩⟩
    have h0 : 0 < len := by
      rcases Nat.eq_zero_or_pos len with h | h
      · subst h; simp at hne
      · exact h
    obtain ⟨b, off, spot⟩ := a
    have hspot : spot = none := by simpa [Addr.add] using World.cell?_spot (hcell 0 (by omega))
    subst hspot
    refine ⟨b, off, rfl, block_lt_of_cell (hcell 0 (by omega)), fun k p hp => ?_⟩
    have hk : k < len := by
      have := (List.getElem?_eq_some_iff.1 hp).1
      omega
    have hks : k < ss.length := by omega
    have hp2 : p = (ss.getD k ByteArray.empty).data.toList := by
      rw [List.getElem?_map, List.getElem?_take_of_lt hk, List.getElem?_eq_getElem hks] at hp
      cases hp
      simp [List.getD, List.getElem?_eq_getElem hks]
    rw [hp2, ← Addr.add_lit]
    have := hcell k hks
    rw [this]
/-- One event. -/
theorem ev_one {H : Type} {enc : TypeId × Value → H} {W : World} {n : Nat} {a : Addr} {y : DataW H × List MemPlace} (h : (W.cells? 0 a 5).bind (DataW.trod enc Tryd.prog W 0 (fun _ => true) true n 70) = some y) :
    ∃ p : Ev × Value, (∀ i u, (evC p.1 p.2)[i]? = some u → W.cell? (a.add i) = some u) ∧ Tx W p.2 p.1.l := by
  rw [Option.bind_eq_some_iff] at h
  obtain ⟨cs, hcs, hy⟩ := h
  obtain ⟨_, hlen, hc⟩ := World.cells?_some hcs
  obtain ⟨f0, f1, f2, f3, f4, hu, ⟨t0, o0⟩, ⟨t1, o1⟩, ⟨t2, o2⟩, ⟨t3, o3⟩, ⟨t4, o4⟩⟩ := under70
  obtain ⟨xs, m, _, _, hl, hxl, hf⟩ := DataW.trod_struct hu hy
  obtain ⟨c0, c1, c2, c3, c4, rfl⟩ := five_of hlen
  have g0 := hf 0 f0 rfl
  have g1 := hf 1 f1 rfl
  have g2 := hf 2 f2 rfl
  have g3 := hf 3 f3 rfl
  have g4 := hf 4 f4 rfl
  rw [t0, o0, cells3] at g0
  rw [t1, o1, cells3] at g1
  rw [t2, o2, cells9] at g2
  rw [t3, o3, cells9] at g3
  rw [t4, o4, cells39] at g4
  have hx : ∀ i, i < 5 → ∃ z, xs[i]? = some z := fun i hi => ⟨_, List.getElem?_eq_getElem (by rw [hxl]; exact hi)⟩
  obtain ⟨z0, e0⟩ := hx 0 (by omega)
  obtain ⟨z1, e1⟩ := hx 1 (by omega)
  obtain ⟨z2, e2⟩ := hx 2 (by omega)
  obtain ⟨z3, e3⟩ := hx 3 (by omega)
  obtain ⟨z4, e4⟩ := hx 4 (by omega)
  rw [e0] at g0
  rw [e1] at g1
  rw [e2] at g2
  rw [e3] at g3
  rw [e4] at g4
  obtain ⟨k, hk, _, _⟩ := DataW.trod_int Tryd.underlying3 g0
  obtain ⟨q, hq, _, _⟩ := DataW.trod_int Tryd.underlying3 g1
  obtain ⟨s, hs, _, _⟩ := DataW.trod_string Tryd.underlying9 g2
  obtain ⟨r, hr, _, _⟩ := DataW.trod_string Tryd.underlying9 g3
  obtain ⟨v, ns, hv, ht⟩ := tx_in g4
  simp at hk hq hs hr hv
  subst hk hq hs hr hv
  refine ⟨(⟨k, q, s.data.toList, r.data.toList, ns⟩, _), fun i u hiu => ?_, ht⟩
  have hi : i < 5 := by
    have := (List.getElem?_eq_some_iff.1 hiu).1
    simpa using this
  rw [hc i hi]
  exact hiu
/-- A list of events. -/
theorem open_ev {H : Type} {enc : TypeId × Value → H} {W : World} {a0 : Option Addr} {len cap fuel : Nat} {d : DataW H} {p : List MemPlace}
    (hf : DataW.trod enc Tryd.prog W 0 (fun _ => true) true fuel 52 [.slice a0 len cap] = some (d, p)) :
    ∃ X : List (Ev × Value), EvAt W (.slice a0 len cap) X ∧ Cap (.slice a0 len cap) := by
  rcases DataW.trod_slice Tryd.underlying52 hf with ⟨hcs, _⟩ | ⟨a, len', cap', elems, rest, n, _, hcs, _, hb, hl, hm, hlen, hel, _, _⟩
  · simp at hcs
    obtain ⟨rfl, rfl, rfl⟩ := hcs
    exact ⟨[], ⟨.inl ⟨rfl, none, 0, rfl⟩, fun p hp => by simp at hp⟩, fun ad n cap h => by cases h; exact ⟨Nat.le_refl _, fun _ => rfl⟩⟩
  · simp at hcs
    obtain ⟨rfl, rfl, rfl⟩ := hcs
    have hC : Cap (.slice (some a) len cap) := fun ad n cap h => by cases h; exact ⟨hl, fun e => by simp at e⟩
    rw [cells70] at hel
    have each : ∀ i, i < len → ∃ q : Ev × Value, (∀ j u, (evC q.1 q.2)[j]? = some u → W.cell? ((a.add (i * 5)).add j) = some u) ∧ Tx W q.2 q.1.l := by
      intro i hi
      have h := hel i hi
      rw [List.getElem?_eq_getElem (show i < elems.length by omega)] at h
      exact ev_one h
    by_cases h0 : len = 0
    · subst h0
      exact ⟨[], ⟨.inl ⟨rfl, _, cap, rfl⟩, fun p hp => by simp at hp⟩, hC⟩
    · obtain ⟨b, off, spot⟩ := a
      have hspot : spot = none := by
        obtain ⟨q, h1, _⟩ := each 0 (by omega)
        simpa [Addr.add] using World.cell?_spot (h1 0 _ rfl)
      subst hspot
      obtain ⟨f, hfn⟩ : ∃ f : Nat → Ev × Value, ∀ i, i < len → (∀ j u, (evC (f i).1 (f i).2)[j]? = some u → W.cell? (((⟨b, off, none⟩ : Addr).add (i * 5)).add j) = some u) ∧ Tx W (f i).2 (f i).1.l :=
        ⟨fun i => if h : i < len then (each i h).choose else (⟨0, 0, [], [], []⟩, .nilIface), fun i hi => by
          have h := (each i hi).choose_spec
          simpa only [dif_pos hi] using h⟩
      refine ⟨(List.range len).map f, ⟨.inr ⟨b, off, cap, by simp, by simpa using hl, ?_, fun j cs hj i u hu => ?_⟩, fun p hp => ?_⟩, hC⟩
      · exact block_lt_of_cell (a := ((⟨b, off, none⟩ : Addr).add (0 * 5)).add 0) ((hfn 0 (by omega)).1 0 _ rfl)
      · have hjl : j < len := by
          have := (List.getElem?_eq_some_iff.1 hj).1
          simpa using this
        rw [List.getElem?_map, List.getElem?_map, List.getElem?_range hjl] at hj
        simp only [Option.map_some, Option.some.injEq] at hj
        subst hj
        have h := (hfn j hjl).1 i u hu
        simp only [Addr.add_lit] at h
        exact h
      · obtain ⟨i, hi, rfl⟩ := List.mem_map.1 hp
        exact (hfn i (List.mem_range.1 hi)).2
end Go.Proofs.YthhghkjgffcpeaaDoor
