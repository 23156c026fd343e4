/- Things told that came in, as the walks want them. -/
import Derived.Test.YthhghkjgffcpeaaDoorOpen2
import Derived.Test.YthhghkjgffcpeaaDoorKFiles
import Derived.ChangeSame
namespace Go.Proofs.YthhghkjgffcpeaaDoor
open Go.ChangeShapes Go.WideShapes Go.ChangeAt Go.RowKit

theorem cells41 : Tryd.prog.cellsOf 41 = 6 := by kernel_rfl
theorem under41 : ∃ f0 f1 f2 f3 f4 f5, Tryd.prog.underlying 41 = some (.struct #[f0, f1, f2, f3, f4, f5]) ∧ (f0.type = 3 ∧ f0.offset = 0) ∧ (f1.type = 3 ∧ f1.offset = 1) ∧ (f4.type = 9 ∧ f4.offset = 4) := ⟨_, _, _, _, _, _, Tryd.underlying41, ⟨rfl, rfl⟩, ⟨rfl, rfl⟩, ⟨rfl, rfl⟩⟩

theorem six_of {cs : List Value} (h : cs.length = 6) : ∃ c0 c1 c2 c3 c4 c5, cs = [c0, c1, c2, c3, c4, c5] := by
  match cs, h with
  | [c0, c1, c2, c3, c4, c5], _ => exact ⟨c0, c1, c2, c3, c4, c5, rfl⟩
/-- One of them. -/
theorem do_one {H : Type} {enc : TypeId × Value → H} {W : World} {n : Nat} {a : Addr} {y : DataW H × List MemPlace} (h : (W.cells? 0 a 6).bind (DataW.trod enc Tryd.prog W 0 (fun _ => true) true n 41) = some y) :
    ∃ p : Dt, W.cell? (a.add 0) = some (.int .i64 p.1) ∧ W.cell? (a.add 1) = some (.int .i64 p.2.1) ∧ W.cell? (a.add 4) = some (str p.2.2) ∧ p.2.2.length ≤ maxLen := by
  rw [Option.bind_eq_some_iff] at h
  obtain ⟨cs, hcs, hy⟩ := h
  obtain ⟨_, hlen, hc⟩ := World.cells?_some hcs
  obtain ⟨f0, f1, f2, f3, f4, f5, hu, ⟨t0, o0⟩, ⟨t1, o1⟩, ⟨t4, o4⟩⟩ := under41
  obtain ⟨xs, m, _, _, hl, hxl, hf⟩ := DataW.trod_struct hu hy
  obtain ⟨c0, c1, c2, c3, c4, c5, rfl⟩ := six_of hlen
  have g0 := hf 0 f0 rfl
  have g1 := hf 1 f1 rfl
  have g4 := hf 4 f4 rfl
  rw [t0, o0, cells3] at g0
  rw [t1, o1, cells3] at g1
  rw [t4, o4, cells9] at g4
  have hx0 : ∃ z, xs[0]? = some z := ⟨_, List.getElem?_eq_getElem (by rw [hxl]; show 0 < 6; omega)⟩
  have hx1 : ∃ z, xs[1]? = some z := ⟨_, List.getElem?_eq_getElem (by rw [hxl]; show 1 < 6; omega)⟩
  have hx4 : ∃ z, xs[4]? = some z := ⟨_, List.getElem?_eq_getElem (by rw [hxl]; show 4 < 6; omega)⟩
  obtain ⟨z0, e0⟩ := hx0
  obtain ⟨z1, e1⟩ := hx1
  obtain ⟨z4, e4⟩ := hx4
  rw [e0] at g0
  rw [e1] at g1
  rw [e4] at g4
  obtain ⟨k, hk, _, _⟩ := DataW.trod_int Tryd.underlying3 g0
  obtain ⟨q, hq, _, _⟩ := DataW.trod_int Tryd.underlying3 g1
  obtain ⟨s, hs, _, hsz⟩ := DataW.trod_string Tryd.underlying9 g4
  simp at hk hq hs
  subst hk hq hs
  refine ⟨(k, q, s.data.toList), ?_, ?_, ?_, ?_⟩
  · exact hc 0 (by omega)
  · exact hc 1 (by omega)
  · exact hc 4 (by omega)
  · rw [Array.length_toList]; exact hsz

/-- A list of them. -/
theorem open_do {H : Type} {enc : TypeId × Value → H} {W : World} {a0 : Option Addr} {len cap fuel : Nat} {d : DataW H} {p : List MemPlace}
    (hf : DataW.trod enc Tryd.prog W 0 (fun _ => true) true fuel 26 [.slice a0 len cap] = some (d, p)) :
    ∃ D : List Dt, DoAt W (.slice a0 len cap) D ∧ ∀ p ∈ D, p.2.2.length ≤ 9223372036854775807 := by
  rcases DataW.trod_slice Tryd.underlying26 hf with ⟨hcs, _⟩ | ⟨a, len', cap', elems, rest, n, _, hcs, _, hb, hl, hm, hlen, hel, _, _⟩
  · simp at hcs
    obtain ⟨rfl, rfl, rfl⟩ := hcs
    exact ⟨[], .inl ⟨rfl, none, 0, rfl⟩, fun p hp => by simp at hp⟩
  · simp at hcs
    obtain ⟨rfl, rfl, rfl⟩ := hcs
    rw [cells41] at hel
    have each : ∀ i, i < len → ∃ q : Dt, W.cell? ((a.add (i * 6)).add 0) = some (.int .i64 q.1) ∧ W.cell? ((a.add (i * 6)).add 1) = some (.int .i64 q.2.1) ∧ W.cell? ((a.add (i * 6)).add 4) = some (str q.2.2) ∧ q.2.2.length ≤ maxLen := by
      intro i hi
      have h := hel i hi
      rw [List.getElem?_eq_getElem (show i < elems.length by omega)] at h
      exact do_one h
    by_cases h0 : len = 0
    · subst h0
      exact ⟨[], .inl ⟨rfl, _, cap, rfl⟩, fun p hp => by simp at hp⟩
    · obtain ⟨b, off, spot⟩ := a
      have hspot : spot = none := by
        obtain ⟨q, h1, _⟩ := each 0 (by omega)
        simpa [Addr.add] using World.cell?_spot h1
      subst hspot
      obtain ⟨f, hfn⟩ : ∃ f : Nat → Dt, ∀ i, i < len → W.cell? (((⟨b, off, none⟩ : Addr).add (i * 6)).add 0) = some (.int .i64 (f i).1) ∧ W.cell? (((⟨b, off, none⟩ : Addr).add (i * 6)).add 1) = some (.int .i64 (f i).2.1) ∧ W.cell? (((⟨b, off, none⟩ : Addr).add (i * 6)).add 4) = some (str (f i).2.2) ∧ (f i).2.2.length ≤ maxLen :=
        ⟨fun i => if h : i < len then (each i h).choose else (0, 0, []), fun i hi => by
          have h := (each i hi).choose_spec
          simpa only [dif_pos hi] using h⟩
      refine ⟨(List.range len).map f, .inr ⟨b, off, cap, by simp, ?_, fun j p hj => ?_⟩, fun p hp => ?_⟩
      · have h1 := (hfn 0 (by omega)).1
        exact block_lt_of_cell (a := ((⟨b, off, none⟩ : Addr).add (0 * 6)).add 0) h1
      · have hjl : j < len := by
          have := (List.getElem?_eq_some_iff.1 hj).1
          simpa using this
        rw [List.getElem?_map, List.getElem?_range hjl] at hj
        simp at hj
        subst hj
        have h := hfn j hjl
        simp only [Addr.add_lit] at h
        exact ⟨h.1, h.2.1, h.2.2.1⟩
      · obtain ⟨i, hi, rfl⟩ := List.mem_map.1 hp
        have := (hfn i (List.mem_range.1 hi)).2.2.2
        exact Nat.le_trans this (by decide)
end Go.Proofs.YthhghkjgffcpeaaDoor
