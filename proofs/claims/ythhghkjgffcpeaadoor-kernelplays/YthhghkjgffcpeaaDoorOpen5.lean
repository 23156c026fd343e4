/- A world, and things told, that came in. -/
import Derived.Test.YthhghkjgffcpeaaDoorOpen2
import Derived.Test.YthhghkjgffcpeaaDoorRow
import Derived.Test.YthhghkjgffcpeaaDoorSameF
import Derived.ChangeSame
namespace Go.Proofs.YthhghkjgffcpeaaDoor
open Go.ChangeShapes Go.WideShapes Go.ChangeAt Go.RowKit

/-- A thing that a kernel is told. -/
structure Dx where
  k : Int
  n : Int
  m : Int
  s : Txt
  t : Txt
  lv : Value
  l : List Txt
abbrev dxC (d : Dx) : List Value := [.int .i64 d.k, .int .i64 d.n, .int .i64 d.m, str d.s, str d.t, d.lv]
def DxAt (W : World) (v : Value) (D : List Dx) : Prop := RowAt W v 6 (D.map dxC) ∧ ∀ d ∈ D, Tx W d.lv d.l
theorem DxAt.form {W : World} {v : Value} {D : List Dx} (h : DxAt W v D) : ∃ ad cap, v = .slice ad D.length cap := by
  obtain ⟨ad, cap, hv⟩ := h.1.form
  exact ⟨ad, cap, by rw [hv]; simp⟩
theorem DxAt.below {W W' : World} {v : Value} {D : List Dx} {B : Nat} (h : DxAt W v D) (hb : Below B W W') (hB : W.heap.size ≤ B) : DxAt W' v D := ⟨h.1.below hb hB, fun p hp => (h.2 p hp).below hb hB⟩
theorem DxAt.at {W : World} {v : Value} {D : List Dx} (h : DxAt W v D) {j : Nat} {d : Dx} (hj : D[j]? = some d) : ∃ g o cap, v = .slice (some ⟨g, o, none⟩) D.length cap ∧ D.length ≤ cap ∧ g < W.heap.size ∧ ∀ i u, (dxC d)[i]? = some u → W.cell? ⟨g, o + j * 6 + i, none⟩ = some u := by
  rcases h.1 with ⟨h0, _⟩ | ⟨g, o, cap, h1, h2, h3, h4⟩
  · have : D = [] := by simpa using h0
    subst this
    simp at hj
  · exact ⟨g, o, cap, by rw [h1]; simp, by simpa using h2, h3, h4 j (dxC d) (by rw [List.getElem?_map, hj]; rfl)⟩

theorem weights_all {H : Type} (e : TypeId) (m : Nat) : ∀ (l : List (DataW H)) (d : DataW H), d ∈ l → m ∈ d.weights Tryd.prog e → m ∈ DataW.weightsAll Tryd.prog e l
  | [], _, h, _ => by simp at h
  | x :: l, d, h, hm => by
    unfold DataW.weightsAll
    rw [List.mem_append]
    rcases List.mem_cons.1 h with rfl | h
    · exact .inl hm
    · exact .inr (weights_all e m l d h hm)
/-- A row of structs that came in. -/
theorem open_row {H T : Type} {enc : TypeId × Value → H} {W : World} {a0 : Option Addr} {len cap fuel : Nat} {d : DataW H} {p : List MemPlace} {t e k : Nat} (hu : Tryd.prog.underlying t = some (.slice e)) (hk : Tryd.prog.cellsOf e = k) (hbz : 1 ≤ Tryd.prog.bytesOf e) (h0 : 0 < k) (z : T) (C : T → List Value) (Good : T → Prop) (hC : ∀ q, (C q).length = k)
    (one : ∀ (n : Nat) (a : Addr) (y : DataW H × List MemPlace), (W.cells? 0 a k).bind (DataW.trod enc Tryd.prog W 0 (fun _ => true) true n e) = some y → (∀ m ∈ y.1.weights Tryd.prog e, m ≤ reachBytes) → ∃ q : T, (∀ i u, (C q)[i]? = some u → W.cell? (a.add i) = some u) ∧ Good q)
    (hf : DataW.trod enc Tryd.prog W 0 (fun _ => true) true fuel t [.slice a0 len cap] = some (d, p)) (hw : ∀ n ∈ d.weights Tryd.prog t, n ≤ reachBytes) :
    ∃ X : List T, RowAt W (.slice a0 len cap) k (X.map C) ∧ X.length ≤ 140737488355328 ∧ ∀ q ∈ X, Good q := by
  have hreach : reachBytes = 140737488351232 := by decide
  rcases DataW.trod_slice hu hf with ⟨hcs, _⟩ | ⟨a, len', cap', elems, rest, n, _, hcs, hd, hb, hl, hm, hlen, hel, _, _⟩
  · simp at hcs
    obtain ⟨rfl, rfl, rfl⟩ := hcs
    exact ⟨[], .inl ⟨rfl, none, 0, rfl⟩, by simp, fun q hq => by simp at hq⟩
  · simp at hcs
    obtain ⟨rfl, rfl, rfl⟩ := hcs
    rw [hk] at hel
    simp only [Prod.mk.injEq] at hd
    obtain ⟨rfl, _⟩ := hd
    have each : ∀ i, i < len → ∃ q : T, (∀ j u, (C q)[j]? = some u → W.cell? ((a.add (i * k)).add j) = some u) ∧ Good q := by
      intro i hi
      have h := hel i hi
      have hil : i < elems.length := by omega
      rw [List.getElem?_eq_getElem hil] at h
      refine one _ _ _ h fun m hm => hw m ?_
      unfold DataW.weights
      rw [hu]
      exact List.mem_cons_of_mem _ (List.mem_append_left _ (weights_all e m (elems.map (·.1)) _ (List.mem_map.2 ⟨_, List.getElem_mem hil, rfl⟩) hm))
    have hlb : len ≤ 140737488355328 := by
      have h1 := hw (((elems.map (·.1)).length + (rest.map (·.1)).length) * Tryd.prog.bytesOf e) (by
        unfold DataW.weights
        rw [hu]
        exact List.mem_cons_self ..)
      rw [List.length_map, List.length_map] at h1
      have h2 := Nat.le_mul_of_pos_right (elems.length + rest.length) hbz
      omega
    by_cases hl0 : len = 0
    · subst hl0
      exact ⟨[], .inl ⟨rfl, _, cap, rfl⟩, by simp, fun q hq => by simp at hq⟩
    · obtain ⟨b, off, spot⟩ := a
      have hspot : spot = none := by
        obtain ⟨q, h1, _⟩ := each 0 (by omega)
        have := h1 0 _ (List.getElem?_eq_getElem (show 0 < (C q).length by rw [hC q]; exact h0))
        simpa [Addr.add] using World.cell?_spot this
      subst hspot
      obtain ⟨f, hfn⟩ : ∃ f : Nat → T, ∀ i, i < len → (∀ j u, (C (f i))[j]? = some u → W.cell? (((⟨b, off, none⟩ : Addr).add (i * k)).add j) = some u) ∧ Good (f i) :=
        ⟨fun i => if h : i < len then (each i h).choose else z, fun i hi => by
          have h := (each i hi).choose_spec
          simpa only [dif_pos hi] using h⟩
      refine ⟨(List.range len).map f, .inr ⟨b, off, cap, by simp, by simpa using hl, ?_, fun j cs hj i u hu => ?_⟩, by simpa using hlb, fun q hq => ?_⟩
      · have := (hfn 0 (by omega)).1 0 _ (List.getElem?_eq_getElem (show 0 < (C (f 0)).length by rw [hC]; exact h0))
        simp only [Addr.add_lit] at this
        exact World.block_lt_of_cell? W ⟨b, _, none⟩ this
      · have hjl : j < len := by
          have := (List.getElem?_eq_some_iff.1 hj).1
          simpa using this
        rw [List.getElem?_map, List.getElem?_map, List.getElem?_range hjl] at hj
        simp only [Option.map_some, Option.some.injEq] at hj
        subst hj
        have h := (hfn j hjl).1 i u hu
        simp only [Addr.add_lit] at h
        exact h
      · obtain ⟨i, hi, rfl⟩ := List.mem_map.1 hq
        exact (hfn i (List.mem_range.1 hi)).2
theorem str_eq (s : ByteArray) : Value.string s = str s.data.toList := by
  show Value.string s = Value.string ⟨s.data.toList.toArray⟩
  rw [Array.toArray_toList]
theorem tx_one {H : Type} {enc : TypeId × Value → H} {W : World} {c : Value} {fuel : Nat} {x : DataW H × List MemPlace} (hf : DataW.trod enc Tryd.prog W 0 (fun _ => true) true fuel 39 [c] = some x) (hw : ∀ n ∈ x.1.weights Tryd.prog 39, n ≤ reachBytes) :
    ∃ ns : List Txt, Tx W c ns ∧ ns.length < 140737488355328 ∧ ∀ s ∈ ns, s.length ≤ 140737488355328 := by
  rcases open_strings Tryd.underlying39 Tryd.underlying9 cells9 hf with ⟨hcs, _⟩ | ⟨a, len, cap, ss, hcs, _⟩
  · obtain rfl : c = .slice none 0 0 := by simpa using hcs
    exact ⟨[], .inl ⟨rfl, rfl⟩, by simp, fun s hs => by simp at hs⟩
  · obtain rfl : c = .slice (some a) len cap := by simpa using hcs
    exact open_tx hf hw
theorem l2_of {cs : List Value} (h : cs.length = 2) : ∃ c0 c1, cs = [c0, c1] := by
  match cs, h with
  | [c0, c1], _ => exact ⟨c0, c1, rfl⟩
theorem l6_of {cs : List Value} (h : cs.length = 6) : ∃ c0 c1 c2 c3 c4 c5, cs = [c0, c1, c2, c3, c4, c5] := by
  match cs, h with
  | [c0, c1, c2, c3, c4, c5], _ => exact ⟨c0, c1, c2, c3, c4, c5, rfl⟩
theorem l7_of {cs : List Value} (h : cs.length = 7) : ∃ c0 c1 c2 c3 c4 c5 c6, cs = [c0, c1, c2, c3, c4, c5, c6] := by
  match cs, h with
  | [c0, c1, c2, c3, c4, c5, c6], _ => exact ⟨c0, c1, c2, c3, c4, c5, c6, rfl⟩
theorem str_one {H : Type} {enc : TypeId × Value → H} {W : World} {c : Value} {fuel : Nat} {x : DataW H × List MemPlace} (hf : DataW.trod enc Tryd.prog W 0 (fun _ => true) true fuel 9 [c] = some x) (hw : ∀ n ∈ x.1.weights Tryd.prog 9, n ≤ reachBytes) :
    ∃ s : Txt, c = str s ∧ s.length ≤ 140737488355328 := by
  have hreach : reachBytes = 140737488351232 := by decide
  obtain ⟨s, hs, hx, _⟩ := DataW.trod_string Tryd.underlying9 hf
  refine ⟨s.data.toList, by rw [← str_eq]; simpa using hs, ?_⟩
  have := hw s.data.toList.length (by rw [hx]; simp [DataW.weights])
  omega
theorem bytes41 : Tryd.prog.bytesOf 41 = 80 := by kernel_rfl
theorem bytes73 : Tryd.prog.bytesOf 73 = 32 := by kernel_rfl
theorem bytes77 : Tryd.prog.bytesOf 77 = 72 := by kernel_rfl
theorem cells25 : Tryd.prog.cellsOf 25 = 2 := by kernel_rfl
theorem cells22 : Tryd.prog.cellsOf 22 = 1 := by kernel_rfl
theorem cells23 : Tryd.prog.cellsOf 23 = 1 := by kernel_rfl
theorem cells4 : Tryd.prog.cellsOf 4 = 1 := by kernel_rfl
theorem cellsOf39 : Tryd.prog.cellsOf 39 = 1 := by kernel_rfl
theorem cells73 : Tryd.prog.cellsOf 73 = 2 := by kernel_rfl
theorem cells77 : Tryd.prog.cellsOf 77 = 7 := by kernel_rfl
theorem cellsOf41 : Tryd.prog.cellsOf 41 = 6 := by kernel_rfl
theorem under73 : ∃ f0 f1, Tryd.prog.underlying 73 = some (.struct #[f0, f1]) ∧ (f0.type = 9 ∧ f0.offset = 0) ∧ (f1.type = 9 ∧ f1.offset = 1) := ⟨_, _, Tryd.underlying73, ⟨rfl, rfl⟩, ⟨rfl, rfl⟩⟩
theorem under25 : ∃ f0 f1, Tryd.prog.underlying 25 = some (.struct #[f0, f1]) ∧ (f0.type = 22 ∧ f0.offset = 0) ∧ (f1.type = 23 ∧ f1.offset = 1) := ⟨_, _, Tryd.underlying25, ⟨rfl, rfl⟩, ⟨rfl, rfl⟩⟩
theorem under77 : ∃ f0 f1 f2 f3 f4 f5 f6, Tryd.prog.underlying 77 = some (.struct #[f0, f1, f2, f3, f4, f5, f6]) ∧ (f0.type = 9 ∧ f0.offset = 0) ∧ (f1.type = 39 ∧ f1.offset = 1) ∧ (f2.type = 4 ∧ f2.offset = 2) ∧ (f3.type = 4 ∧ f3.offset = 3) ∧ (f4.type = 4 ∧ f4.offset = 4) ∧ (f5.type = 9 ∧ f5.offset = 5) ∧ (f6.type = 3 ∧ f6.offset = 6) := ⟨_, _, _, _, _, _, _, Tryd.underlying77, ⟨rfl, rfl⟩, ⟨rfl, rfl⟩, ⟨rfl, rfl⟩, ⟨rfl, rfl⟩, ⟨rfl, rfl⟩, ⟨rfl, rfl⟩, ⟨rfl, rfl⟩⟩
theorem underDo : ∃ f0 f1 f2 f3 f4 f5, Tryd.prog.underlying 41 = some (.struct #[f0, f1, f2, f3, f4, f5]) ∧ (f0.type = 3 ∧ f0.offset = 0) ∧ (f1.type = 3 ∧ f1.offset = 1) ∧ (f2.type = 3 ∧ f2.offset = 2) ∧ (f3.type = 9 ∧ f3.offset = 3) ∧ (f4.type = 9 ∧ f4.offset = 4) ∧ (f5.type = 39 ∧ f5.offset = 5) := ⟨_, _, _, _, _, _, Tryd.underlying41, ⟨rfl, rfl⟩, ⟨rfl, rfl⟩, ⟨rfl, rfl⟩, ⟨rfl, rfl⟩, ⟨rfl, rfl⟩, ⟨rfl, rfl⟩⟩
/-- A part's weights are the whole's. -/
theorem part_weights {H : Type} {t : TypeId} {fs : Array Field} {xs : List (DataW H × List MemPlace)} (hu : Tryd.prog.underlying t = some (.struct fs)) {i : Nat} {f : Field} {z : DataW H × List MemPlace} (hi : fs[i]? = some f) (hz : xs[i]? = some z) (hw : ∀ n ∈ (DataW.agg (xs.map (·.1))).weights Tryd.prog t, n ≤ reachBytes) : ∀ n ∈ z.1.weights Tryd.prog f.type, n ≤ reachBytes := by
  intro n hn
  refine hw n ?_
  unfold DataW.weights
  rw [hu]
  refine DataW.weights_mem_each (j := i) (t := f.type) (d := z.1) ?_ ?_ n hn
  · simp [hi]
  · rw [List.getElem?_map, hz]
    rfl
theorem file_one {H : Type} {enc : TypeId × Value → H} {W : World} (n : Nat) (a : Addr) (y : DataW H × List MemPlace) (h : (W.cells? 0 a 2).bind (DataW.trod enc Tryd.prog W 0 (fun _ => true) true n 73) = some y) (hw : ∀ m ∈ y.1.weights Tryd.prog 73, m ≤ reachBytes) :
    ∃ q : Txt × Txt, (∀ i u, [str q.1, str q.2][i]? = some u → W.cell? (a.add i) = some u) ∧ (q.1.length ≤ 140737488355328 ∧ q.2.length ≤ 140737488355328) := by
  rw [Option.bind_eq_some_iff] at h
  obtain ⟨cs, hcs, hy⟩ := h
  obtain ⟨_, hlen, hc⟩ := World.cells?_some hcs
  obtain ⟨f0, f1, hu, ⟨t0, o0⟩, ⟨t1, o1⟩⟩ := under73
  obtain ⟨xs, m, _, hyx, hl, hxl, hf⟩ := DataW.trod_struct hu hy
  obtain ⟨c0, c1, rfl⟩ := l2_of hlen
  have hx : ∀ i, i < 2 → ∃ z, xs[i]? = some z := fun i hi => ⟨_, List.getElem?_eq_getElem (by rw [hxl]; exact hi)⟩
  obtain ⟨z0, e0⟩ := hx 0 (by omega)
  obtain ⟨z1, e1⟩ := hx 1 (by omega)
  rw [hyx] at hw
  have w0 := part_weights hu (i := 0) (f := f0) rfl e0 hw
  have w1 := part_weights hu (i := 1) (f := f1) rfl e1 hw
  have g0 := hf 0 f0 rfl
  have g1 := hf 1 f1 rfl
  rw [t0] at w0
  rw [t1] at w1
  rw [t0, o0, cells9, e0] at g0
  rw [t1, o1, cells9, e1] at g1
  obtain ⟨s0, h0, l0⟩ := str_one g0 w0
  obtain ⟨s1, h1, l1⟩ := str_one (c := c1) g1 w1
  subst h0 h1
  refine ⟨(s0, s1), fun i u hiu => ?_, l0, l1⟩
  have hi : i < 2 := by
    have := (List.getElem?_eq_some_iff.1 hiu).1
    simpa using this
  rw [hc i hi]
  exact hiu
def RwGood (W : World) (q : Rw × Value) : Prop := Tx W q.2 q.1.args ∧ q.1.args.length < 140737488355328 ∧ (∀ s ∈ q.1.args, s.length ≤ 140737488355328) ∧ q.1.name.length ≤ 140737488355328 ∧ q.1.out.length ≤ 140737488355328
theorem row_one {H : Type} {enc : TypeId × Value → H} {W : World} (n : Nat) (a : Addr) (y : DataW H × List MemPlace) (h : (W.cells? 0 a 7).bind (DataW.trod enc Tryd.prog W 0 (fun _ => true) true n 77) = some y) (hw : ∀ m ∈ y.1.weights Tryd.prog 77, m ≤ reachBytes) :
    ∃ q : Rw × Value, (∀ i u, (rwC q.1 q.2)[i]? = some u → W.cell? (a.add i) = some u) ∧ RwGood W q := by
  rw [Option.bind_eq_some_iff] at h
  obtain ⟨cs, hcs, hy⟩ := h
  obtain ⟨_, hlen, hc⟩ := World.cells?_some hcs
  obtain ⟨f0, f1, f2, f3, f4, f5, f6, hu, ⟨t0, o0⟩, ⟨t1, o1⟩, ⟨t2, o2⟩, ⟨t3, o3⟩, ⟨t4, o4⟩, ⟨t5, o5⟩, ⟨t6, o6⟩⟩ := under77
  obtain ⟨xs, m, _, hyx, hl, hxl, hf⟩ := DataW.trod_struct hu hy
  obtain ⟨c0, c1, c2, c3, c4, c5, c6, rfl⟩ := l7_of hlen
  have hx : ∀ i, i < 7 → ∃ z, xs[i]? = some z := fun i hi => ⟨_, List.getElem?_eq_getElem (by rw [hxl]; exact hi)⟩
  obtain ⟨z0, e0⟩ := hx 0 (by omega)
  obtain ⟨z1, e1⟩ := hx 1 (by omega)
  obtain ⟨z2, e2⟩ := hx 2 (by omega)
  obtain ⟨z3, e3⟩ := hx 3 (by omega)
  obtain ⟨z4, e4⟩ := hx 4 (by omega)
  obtain ⟨z5, e5⟩ := hx 5 (by omega)
  obtain ⟨z6, e6⟩ := hx 6 (by omega)
  rw [hyx] at hw
  have w0 := part_weights hu (i := 0) (f := f0) rfl e0 hw
  have w1 := part_weights hu (i := 1) (f := f1) rfl e1 hw
  have w5 := part_weights hu (i := 5) (f := f5) rfl e5 hw
  have g0 := hf 0 f0 rfl
  have g1 := hf 1 f1 rfl
  have g2 := hf 2 f2 rfl
  have g3 := hf 3 f3 rfl
  have g4 := hf 4 f4 rfl
  have g5 := hf 5 f5 rfl
  have g6 := hf 6 f6 rfl
  rw [t0] at w0
  rw [t1] at w1
  rw [t5] at w5
  rw [t0, o0, cells9, e0] at g0
  rw [t1, o1, cellsOf39, e1] at g1
  rw [t2, o2, cells4, e2] at g2
  rw [t3, o3, cells4, e3] at g3
  rw [t4, o4, cells4, e4] at g4
  rw [t5, o5, cells9, e5] at g5
  rw [t6, o6, cells3, e6] at g6
  obtain ⟨s0, h0, l0⟩ := str_one (c := c0) g0 w0
  obtain ⟨ns, h1, l1, l1'⟩ := tx_one (c := c1) g1 w1
  obtain ⟨b2, h2, _⟩ := DataW.trod_bool Tryd.underlying4 g2
  obtain ⟨b3, h3, _⟩ := DataW.trod_bool Tryd.underlying4 g3
  obtain ⟨b4, h4, _⟩ := DataW.trod_bool Tryd.underlying4 g4
  obtain ⟨s5, h5, l5⟩ := str_one (c := c5) g5 w5
  obtain ⟨k6, h6, _, _⟩ := DataW.trod_int Tryd.underlying3 g6
  simp at h2 h3 h4 h6
  subst h0 h2 h3 h4 h5 h6
  refine ⟨(⟨s0, ns, b2, b3, b4, s5, k6⟩, c1), fun i u hiu => ?_, h1, l1, l1', l0, l5⟩
  have hi : i < 7 := by
    have := (List.getElem?_eq_some_iff.1 hiu).1
    simpa using this
  rw [hc i hi]
  exact hiu
def DxGood (W : World) (q : Dx) : Prop := Tx W q.lv q.l ∧ q.l.length < 140737488355328 ∧ (∀ s ∈ q.l, s.length ≤ 140737488355328) ∧ q.s.length ≤ 140737488355328 ∧ q.t.length ≤ 140737488355328
theorem dx_one {H : Type} {enc : TypeId × Value → H} {W : World} (n : Nat) (a : Addr) (y : DataW H × List MemPlace) (h : (W.cells? 0 a 6).bind (DataW.trod enc Tryd.prog W 0 (fun _ => true) true n 41) = some y) (hw : ∀ m ∈ y.1.weights Tryd.prog 41, m ≤ reachBytes) :
    ∃ q : Dx, (∀ i u, (dxC q)[i]? = some u → W.cell? (a.add i) = some u) ∧ DxGood W q := by
  rw [Option.bind_eq_some_iff] at h
  obtain ⟨cs, hcs, hy⟩ := h
  obtain ⟨_, hlen, hc⟩ := World.cells?_some hcs
  obtain ⟨f0, f1, f2, f3, f4, f5, hu, ⟨t0, o0⟩, ⟨t1, o1⟩, ⟨t2, o2⟩, ⟨t3, o3⟩, ⟨t4, o4⟩, ⟨t5, o5⟩⟩ := underDo
  obtain ⟨xs, m, _, hyx, hl, hxl, hf⟩ := DataW.trod_struct hu hy
  obtain ⟨c0, c1, c2, c3, c4, c5, rfl⟩ := l6_of hlen
  have hx : ∀ i, i < 6 → ∃ z, xs[i]? = some z := fun i hi => ⟨_, List.getElem?_eq_getElem (by rw [hxl]; exact hi)⟩
  obtain ⟨z0, e0⟩ := hx 0 (by omega)
  obtain ⟨z1, e1⟩ := hx 1 (by omega)
  obtain ⟨z2, e2⟩ := hx 2 (by omega)
  obtain ⟨z3, e3⟩ := hx 3 (by omega)
  obtain ⟨z4, e4⟩ := hx 4 (by omega)
  obtain ⟨z5, e5⟩ := hx 5 (by omega)
  rw [hyx] at hw
  have w3 := part_weights hu (i := 3) (f := f3) rfl e3 hw
  have w4 := part_weights hu (i := 4) (f := f4) rfl e4 hw
  have w5 := part_weights hu (i := 5) (f := f5) rfl e5 hw
  have g0 := hf 0 f0 rfl
  have g1 := hf 1 f1 rfl
  have g2 := hf 2 f2 rfl
  have g3 := hf 3 f3 rfl
  have g4 := hf 4 f4 rfl
  have g5 := hf 5 f5 rfl
  rw [t3] at w3
  rw [t4] at w4
  rw [t5] at w5
  rw [t0, o0, cells3, e0] at g0
  rw [t1, o1, cells3, e1] at g1
  rw [t2, o2, cells3, e2] at g2
  rw [t3, o3, cells9, e3] at g3
  rw [t4, o4, cells9, e4] at g4
  rw [t5, o5, cellsOf39, e5] at g5
  obtain ⟨k0, h0, _, _⟩ := DataW.trod_int Tryd.underlying3 g0
  obtain ⟨k1, h1, _, _⟩ := DataW.trod_int Tryd.underlying3 g1
  obtain ⟨k2, h2, _, _⟩ := DataW.trod_int Tryd.underlying3 g2
  obtain ⟨s3, h3, l3⟩ := str_one (c := c3) g3 w3
  obtain ⟨s4, h4, l4⟩ := str_one (c := c4) g4 w4
  obtain ⟨ns, h5, l5, l5'⟩ := tx_one (c := c5) g5 w5
  simp at h0 h1 h2
  subst h0 h1 h2 h3 h4
  refine ⟨⟨k0, k1, k2, s3, s4, c5, ns⟩, fun i u hiu => ?_, h5, l5, l5', l3, l4⟩
  have hi : i < 6 := by
    have := (List.getElem?_eq_some_iff.1 hiu).1
    simpa using this
  rw [hc i hi]
  exact hiu
/-- Things told that came in. -/
theorem open_dx {H : Type} {enc : TypeId × Value → H} {W : World} {a0 : Option Addr} {len cap fuel : Nat} {d : DataW H} {p : List MemPlace} (hf : DataW.trod enc Tryd.prog W 0 (fun _ => true) true fuel 26 [.slice a0 len cap] = some (d, p)) (hw : ∀ n ∈ d.weights Tryd.prog 26, n ≤ reachBytes) :
    ∃ D : List Dx, DxAt W (.slice a0 len cap) D ∧ D.length ≤ 140737488355328 ∧ ∀ q ∈ D, DxGood W q := by
  obtain ⟨D, h1, hn, h2⟩ := open_row Tryd.underlying26 cellsOf41 (by rw [bytes41]; decide) (by decide) (⟨0, 0, 0, [], [], .slice none 0 0, []⟩ : Dx) dxC (DxGood W) (fun q => rfl) dx_one hf hw
  exact ⟨D, ⟨h1, fun q hq => (h2 q hq).1⟩, hn, h2⟩
theorem slice_form {H : Type} {enc : TypeId × Value → H} {W : World} {t e fuel : Nat} {c : Value} {x : DataW H × List MemPlace} (hu : Tryd.prog.underlying t = some (.slice e)) (hf : DataW.trod enc Tryd.prog W 0 (fun _ => true) true fuel t [c] = some x) : ∃ a0 len cap, c = .slice a0 len cap := by
  rcases DataW.trod_slice hu hf with ⟨hcs, _⟩ | ⟨a, len, cap, elems, rest, n, _, hcs, _⟩
  · exact ⟨none, 0, 0, by simpa using hcs⟩
  · exact ⟨some a, len, cap, by simpa using hcs⟩
/-- A world that came in. -/
theorem open_world {H : Type} {enc : TypeId × Value → H} {W : World} {cs : Array Value} {fuel : Nat} {d : DataW H} {p : List MemPlace} (hf : DataW.trod enc Tryd.prog W 0 (fun _ => true) true fuel 25 cs.toList = some (d, p)) (hw : ∀ n ∈ d.weights Tryd.prog 25, n ≤ reachBytes) :
    ∃ (fv rv : Value) (Fl : Fls) (Y : List (Rw × Value)), cs = #[fv, rv] ∧ FlAt W fv Fl ∧ RwAt W rv Y ∧ (Fl.length ≤ 140737488355328 ∧ Y.length ≤ 140737488355328) ∧ (∀ p ∈ Fl, p.1.length ≤ 140737488355328 ∧ p.2.length ≤ 140737488355328) ∧ ∀ q ∈ Y, RwGood W q := by
  obtain ⟨f0, f1, hu, ⟨t0, o0⟩, ⟨t1, o1⟩⟩ := under25
  obtain ⟨xs, m, _, hyx, hl, hxl, hf2⟩ := DataW.trod_struct hu hf
  rw [cells25] at hl
  obtain ⟨c0, c1, hcs2⟩ := l2_of hl
  obtain rfl : cs = #[c0, c1] := by cases cs; simp_all
  have hx : ∀ i, i < 2 → ∃ z, xs[i]? = some z := fun i hi => ⟨_, List.getElem?_eq_getElem (by rw [hxl]; exact hi)⟩
  obtain ⟨z0, e0⟩ := hx 0 (by omega)
  obtain ⟨z1, e1⟩ := hx 1 (by omega)
  simp only [Prod.mk.injEq] at hyx
  rw [hyx.1] at hw
  have w0 := part_weights hu (i := 0) (f := f0) rfl e0 hw
  have w1 := part_weights hu (i := 1) (f := f1) rfl e1 hw
  have g0 := hf2 0 f0 rfl
  have g1 := hf2 1 f1 rfl
  rw [t0] at w0
  rw [t1] at w1
  rw [t0, o0, cells22, e0] at g0
  rw [t1, o1, cells23, e1] at g1
  have g0' : DataW.trod enc Tryd.prog W 0 (fun _ => true) true m 22 [c0] = some z0 := g0
  have g1' : DataW.trod enc Tryd.prog W 0 (fun _ => true) true m 23 [c1] = some z1 := g1
  obtain ⟨a0, n0, k0, rfl⟩ := slice_form Tryd.underlying22 g0'
  obtain ⟨a1, n1, k1, rfl⟩ := slice_form Tryd.underlying23 g1'
  obtain ⟨Fl, h1, hn1, h2⟩ := open_row Tryd.underlying22 cells73 (by rw [bytes73]; decide) (by decide) (([], []) : Txt × Txt) (fun q => [str q.1, str q.2]) (fun q => q.1.length ≤ 140737488355328 ∧ q.2.length ≤ 140737488355328) (fun q => rfl) file_one (d := z0.1) (p := z0.2) g0' w0
  obtain ⟨Y, h3, hn2, h4⟩ := open_row Tryd.underlying23 cells77 (by rw [bytes77]; decide) (by decide) ((⟨[], [], false, false, false, [], 0⟩, .slice none 0 0) : Rw × Value) (fun q => rwC q.1 q.2) (RwGood W) (fun q => rfl) row_one (d := z1.1) (p := z1.2) g1' w1
  exact ⟨_, _, Fl, Y, rfl, h1, ⟨h3, fun q hq => (h4 q hq).1⟩, ⟨hn1, hn2⟩, h2, h4⟩
end Go.Proofs.YthhghkjgffcpeaaDoor
