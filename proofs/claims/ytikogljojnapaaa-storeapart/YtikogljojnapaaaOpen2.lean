/- Rows of values, and of things to be told, that came in. -/
import Derived.Test.YtikogljojnapaaaOpen
import Derived.Test.YtikogljojnapaaaLight
namespace Go.Proofs.Ytikogljojnapaaa
open Go.ChangeShapes Go.WideShapes Go.ChangeAt Go.RowKit

theorem cells29 : Try.prog.cellsOf 29 = 1 := by kernel_rfl
theorem cells38 : Try.prog.cellsOf 38 = 1 := by kernel_rfl
theorem cells4 : Try.prog.cellsOf 4 = 1 := by kernel_rfl
theorem cells34 : Try.prog.cellsOf 34 = 2 := by kernel_rfl
theorem cells40 : Try.prog.cellsOf 40 = 5 := by kernel_rfl
theorem bytes9 : Try.prog.bytesOf 9 = 16 := by kernel_rfl
theorem under34 : ∃ f0 f1, Try.prog.underlying 34 = some (.struct #[f0, f1]) ∧ (f0.type = 9 ∧ f0.offset = 0) ∧ (f1.type = 29 ∧ f1.offset = 1) := ⟨_, _, Try.underlying34, ⟨rfl, rfl⟩, ⟨rfl, rfl⟩⟩
theorem under40 : ∃ f0 f1 f2 f3 f4, Try.prog.underlying 40 = some (.struct #[f0, f1, f2, f3, f4]) ∧ (f0.type = 3 ∧ f0.offset = 0) ∧ (f1.type = 9 ∧ f1.offset = 1) ∧ (f2.type = 29 ∧ f2.offset = 2) ∧ (f3.type = 4 ∧ f3.offset = 3) ∧ (f4.type = 38 ∧ f4.offset = 4) := ⟨_, _, _, _, _, Try.underlying40, ⟨rfl, rfl⟩, ⟨rfl, rfl⟩, ⟨rfl, rfl⟩, ⟨rfl, rfl⟩, ⟨rfl, rfl⟩⟩
theorem two_of {cs : List Value} (h : cs.length = 2) : ∃ c0 c1, cs = [c0, c1] := by
  match cs, h with
  | [c0, c1], _ => exact ⟨c0, c1, rfl⟩
/-- A row of structs that came in. -/
theorem open_row {H T : Type} {enc : TypeId × Value → H} {W : World} {a0 : Option Addr} {len cap fuel : Nat} {d : DataW H} {p : List MemPlace} {t e k : Nat} (hu : Try.prog.underlying t = some (.slice e)) (hk : Try.prog.cellsOf e = k) (h0 : 0 < k) (z : T) (C : T → List Value) (Good : T → DataW H → Prop) (hC : ∀ q, (C q).length = k)
    (one : ∀ (n : Nat) (a : Addr) (y : DataW H × List MemPlace), (W.cells? 0 a k).bind (DataW.trod enc Try.prog W 0 (fun _ => true) true n e) = some y → ∃ q : T, (∀ i u, (C q)[i]? = some u → W.cell? (a.add i) = some u) ∧ Good q y.1)
    (hf : DataW.trod enc Try.prog W 0 (fun _ => true) true fuel t [.slice a0 len cap] = some (d, p)) :
    ∃ X : List T, RowAt W (.slice a0 len cap) k (X.map C) ∧ len = X.length ∧ len ≤ maxLen ∧ ∀ q ∈ X, ∃ y, Good q y ∧ ((∀ n ∈ d.weights Try.prog t, n ≤ reachBytes) → ∀ n ∈ y.weights Try.prog e, n ≤ reachBytes) := by
  rcases DataW.trod_slice hu hf with ⟨hcs, _⟩ | ⟨a, len', cap', elems, rest, n, _, hcs, hd, hb, hl, hm, hlen, hel, _, _⟩
  · simp at hcs
    obtain ⟨rfl, rfl, rfl⟩ := hcs
    exact ⟨[], .inl ⟨rfl, .inl rfl⟩, rfl, Nat.zero_le _, fun q hq => by simp at hq⟩
  · simp at hcs
    obtain ⟨rfl, rfl, rfl⟩ := hcs
    rw [hk] at hel
    simp only [Prod.mk.injEq] at hd
    obtain ⟨rfl, _⟩ := hd
    have each : ∀ i, i < len → ∃ q : T, (∀ j u, (C q)[j]? = some u → W.cell? ((a.add (i * k)).add j) = some u) ∧ ∃ y, Good q y ∧ ((∀ n ∈ (DataW.slice (elems.map (·.1)) (rest.map (·.1))).weights Try.prog t, n ≤ reachBytes) → ∀ n ∈ y.weights Try.prog e, n ≤ reachBytes) := by
      intro i hi
      have h := hel i hi
      have hil : i < elems.length := by omega
      rw [List.getElem?_eq_getElem hil] at h
      obtain ⟨q, h1, h2⟩ := one _ _ _ h
      refine ⟨q, h1, _, h2, fun hw m hm => hw m ?_⟩
      unfold DataW.weights
      rw [hu]
      exact List.mem_cons_of_mem _ (List.mem_append_left _ (weights_all e m (elems.map (·.1)) _ (List.mem_map.2 ⟨_, List.getElem_mem hil, rfl⟩) hm))
    by_cases hl0 : len = 0
    · subst hl0
      exact ⟨[], .inl ⟨rfl, .inr ⟨_, cap, rfl⟩⟩, rfl, Nat.zero_le _, fun q hq => by simp at hq⟩
    · obtain ⟨b, off, spot⟩ := a
      have hspot : spot = none := by
        obtain ⟨q, h1, _⟩ := each 0 (by omega)
        have := h1 0 _ (List.getElem?_eq_getElem (show 0 < (C q).length by rw [hC q]; exact h0))
        simpa [Addr.add] using World.cell?_spot this
      subst hspot
      obtain ⟨f, hfn⟩ : ∃ f : Nat → T, ∀ i, i < len → (∀ j u, (C (f i))[j]? = some u → W.cell? (((⟨b, off, none⟩ : Addr).add (i * k)).add j) = some u) ∧ ∃ y, Good (f i) y ∧ ((∀ n ∈ (DataW.slice (elems.map (·.1)) (rest.map (·.1))).weights Try.prog t, n ≤ reachBytes) → ∀ n ∈ y.weights Try.prog e, n ≤ reachBytes) :=
        ⟨fun i => if h : i < len then (each i h).choose else z, fun i hi => by
          have h := (each i hi).choose_spec
          simpa only [dif_pos hi] using h⟩
      refine ⟨(List.range len).map f, .inr ⟨b, off, cap, by simp, by simpa using hl, ?_, fun j cs hj i u hu => ?_⟩, by simp, by omega, fun q hq => ?_⟩
      · have := (hfn 0 (by omega)).1 0 _ (List.getElem?_eq_getElem (show 0 < (C (f 0)).length by rw [hC]; exact h0))
        simp only [Addr.add_lit] at this
        exact World.block_lt_of_cell? W ⟨b, _, none⟩ this
      · have hjl : j < len := by
          have := (List.getElem?_eq_some_iff.1 hj).1
          simpa using this
        rw [List.getElem?_map, List.getElem?_map, List.getElem?_range hjl] at hj
        simp only [Option.map_some, Option.some.injEq] at hj
        subst hj
        have h := (hfn j hjl).1 i u hu
        simp only [Addr.add_lit] at h
        exact h
      · obtain ⟨i, hi, rfl⟩ := List.mem_map.1 hq
        exact (hfn i (List.mem_range.1 hi)).2
theorem open_texts1 {H : Type} {enc : TypeId × Value → H} {W : World} {c : Value} {fuel : Nat} {x : DataW H × List MemPlace} (hf : DataW.trod enc Try.prog W 0 (fun _ => true) true fuel 29 [c] = some x) :
    ∃ ns : List Txt, Tx W c ns ∧ ns.length ≤ maxLen ∧ (∀ s ∈ ns, s.length ≤ maxLen) ∧ ((∀ n ∈ x.1.weights Try.prog 29, n ≤ reachBytes) → ns.length * 16 ≤ reachBytes) := by
  rcases open_strings Try.underlying29 Try.underlying9 cells9 hf with ⟨hcs, _⟩ | ⟨a, len, cap, ss, hcs, _, hl, hm, hz, hx, _, _⟩
  · obtain rfl : c = .slice none 0 0 := by simpa using hcs
    exact ⟨[], .inl ⟨rfl, rfl⟩, Nat.zero_le _, fun s hs => by simp at hs, fun _ => by simp⟩
  · obtain rfl : c = .slice (some a) len cap := by simpa using hcs
    obtain ⟨ns, h1, h2, h3, h4⟩ := open_texts hf
    simp only [if_true] at hz
    refine ⟨ns, h1, by omega, h4, fun hw => ?_⟩
    have h5 := hw (((strs (H := H) (ss.take len)).length + (strs (H := H) (ss.drop len)).length) * Try.prog.bytesOf 9) (by
      rw [hx]
      unfold DataW.weights
      rw [Try.underlying29]
      exact List.mem_cons_self ..)
    rw [bytes9] at h5
    have h6 : (strs (H := H) (ss.take len)).length = len := by simp [strs]; omega
    omega
theorem open_nodes1 {H : Type} {enc : TypeId × Value → H} {W : World} {c : Value} {fuel : Nat} {x : DataW H × List MemPlace} (hf : DataW.trod enc Try.prog W 0 (fun _ => true) true fuel 38 [c] = some x) :
    ∃ X : List Nd, NdAt W c X ∧ X.length ≤ maxLen := by
  obtain ⟨d, p⟩ := x
  rcases DataW.trod_slice Try.underlying38 hf with ⟨hcs, _⟩ | ⟨a, len, cap, elems, rest, n, _, hcs, _⟩
  · obtain rfl : c = .slice none 0 0 := by simpa using hcs
    exact ⟨[], NdAt.nil _, Nat.zero_le _⟩
  · obtain rfl : c = .slice (some a) len cap := by simpa using hcs
    obtain ⟨X, h1, h2, h3⟩ := open_nodes hf
    exact ⟨X, h1, by omega⟩
theorem str_eq (s : ByteArray) : Value.string s = str s.data.toList := by
  show Value.string s = Value.string ⟨s.data.toList.toArray⟩
  rw [Array.toArray_toList]
/-- What is known of a value that came in. -/
def VaGood {H : Type} (W : World) (q : Txt × Value × List Txt) (y : DataW H) : Prop := q.1.length ≤ maxLen ∧ Tx W q.2.1 q.2.2 ∧ ((∀ n ∈ y.weights Try.prog 34, n ≤ reachBytes) → q.2.2.length * 16 ≤ reachBytes)
theorem va_one {H : Type} {enc : TypeId × Value → H} {W : World} (n : Nat) (a : Addr) (y : DataW H × List MemPlace) (h : (W.cells? 0 a 2).bind (DataW.trod enc Try.prog W 0 (fun _ => true) true n 34) = some y) :
    ∃ q : Txt × Value × List Txt, (∀ i u, [str q.1, q.2.1][i]? = some u → W.cell? (a.add i) = some u) ∧ VaGood W q y.1 := by
  rw [Option.bind_eq_some_iff] at h
  obtain ⟨cs, hcs, hy⟩ := h
  obtain ⟨_, hlen, hc⟩ := World.cells?_some hcs
  obtain ⟨f0, f1, hu, ⟨t0, o0⟩, ⟨t1, o1⟩⟩ := under34
  obtain ⟨xs, m, _, hyx, hl, hxl, hf⟩ := DataW.trod_struct hu hy
  obtain ⟨c0, c1, rfl⟩ := two_of hlen
  have g0 := hf 0 f0 rfl
  have g1 := hf 1 f1 rfl
  rw [t0, o0, cells9] at g0
  rw [t1, o1, cells29] at g1
  have hx : ∀ i, i < 2 → ∃ z, xs[i]? = some z := fun i hi => ⟨_, List.getElem?_eq_getElem (by rw [hxl]; exact hi)⟩
  obtain ⟨z0, e0⟩ := hx 0 (by omega)
  obtain ⟨z1, e1⟩ := hx 1 (by omega)
  rw [e0] at g0
  rw [e1] at g1
  obtain ⟨s, hs, _, ws⟩ := DataW.trod_string Try.underlying9 g0
  simp at hs
  subst hs
  obtain ⟨ns, h1, h2, h3, h4⟩ := open_texts1 (c := c1) g1
  refine ⟨(s.data.toList, c1, ns), fun i u hiu => ?_, by rw [Array.length_toList]; exact ws, h1, fun hw => h4 (fun k hk => hw k ?_)⟩
  · have hi : i < 2 := by
      have := (List.getElem?_eq_some_iff.1 hiu).1
      simpa using this
    rw [hc i hi]
    rw [str_eq]
    exact hiu
  · rw [hyx]
    unfold DataW.weights
    rw [hu]
    refine DataW.weights_mem_each (j := 1) (t := 29) (d := z1.1) ?_ ?_ _ hk
    · simp [t1]
    · rw [List.getElem?_map, e1]
      rfl
theorem open_values {H : Type} {enc : TypeId × Value → H} {W : World} {a0 : Option Addr} {len cap fuel : Nat} {d : DataW H} {p : List MemPlace} (hf : DataW.trod enc Try.prog W 0 (fun _ => true) true fuel 22 [.slice a0 len cap] = some (d, p)) (hw : ∀ n ∈ d.weights Try.prog 22, n ≤ reachBytes) :
    ∃ X : Vrs, VaAt W (.slice a0 len cap) X ∧ X.length ≤ maxLen ∧ ∀ q ∈ X, q.1.length ≤ maxLen ∧ q.2.2.length * 16 ≤ big := by
  obtain ⟨X, h1, h2, h3, h4⟩ := open_row Try.underlying22 cells34 (by decide) (([], .slice none 0 0, []) : Txt × Value × List Txt) (fun q => [str q.1, q.2.1]) (VaGood W) (fun q => rfl) va_one hf
  have hreach : reachBytes = 140737488351232 := by decide
  refine ⟨X, ⟨h1, fun q hq => ?_⟩, by omega, fun q hq => ?_⟩
  · obtain ⟨y, hy, _⟩ := h4 q hq
    exact hy.2.1
  · obtain ⟨y, hy, hwy⟩ := h4 q hq
    have := hy.2.2 (hwy hw)
    unfold big
    exact ⟨hy.1, by omega⟩
def DoGood {H : Type} (W : World) (q : Dd) (_ : DataW H) : Prop := (q.k.length ≤ maxLen ∧ q.l.length ≤ maxLen ∧ q.nl.length ≤ maxLen ∧ ∀ s ∈ q.l, s.length ≤ maxLen) ∧ Tx W q.lv q.l ∧ NdAt W q.pv q.nl
theorem do_one {H : Type} {enc : TypeId × Value → H} {W : World} (n : Nat) (a : Addr) (y : DataW H × List MemPlace) (h : (W.cells? 0 a 5).bind (DataW.trod enc Try.prog W 0 (fun _ => true) true n 40) = some y) :
    ∃ q : Dd, (∀ i u, (ddC q)[i]? = some u → W.cell? (a.add i) = some u) ∧ DoGood W q y.1 := by
  rw [Option.bind_eq_some_iff] at h
  obtain ⟨cs, hcs, hy⟩ := h
  obtain ⟨_, hlen, hc⟩ := World.cells?_some hcs
  obtain ⟨f0, f1, f2, f3, f4, hu, ⟨t0, o0⟩, ⟨t1, o1⟩, ⟨t2, o2⟩, ⟨t3, o3⟩, ⟨t4, o4⟩⟩ := under40
  obtain ⟨xs, m, _, hyx, hl, hxl, hf⟩ := DataW.trod_struct hu hy
  obtain ⟨c0, c1, c2, c3, c4, rfl⟩ := five_of hlen
  have g0 := hf 0 f0 rfl
  have g1 := hf 1 f1 rfl
  have g2 := hf 2 f2 rfl
  have g3 := hf 3 f3 rfl
  have g4 := hf 4 f4 rfl
  rw [t0, o0, cells3] at g0
  rw [t1, o1, cells9] at g1
  rw [t2, o2, cells29] at g2
  rw [t3, o3, cells4] at g3
  rw [t4, o4, cells38] at g4
  have hx : ∀ i, i < 5 → ∃ z, xs[i]? = some z := fun i hi => ⟨_, List.getElem?_eq_getElem (by rw [hxl]; exact hi)⟩
  obtain ⟨z0, e0⟩ := hx 0 (by omega)
  obtain ⟨z1, e1⟩ := hx 1 (by omega)
  obtain ⟨z2, e2⟩ := hx 2 (by omega)
  obtain ⟨z3, e3⟩ := hx 3 (by omega)
  obtain ⟨z4, e4⟩ := hx 4 (by omega)
  rw [e0] at g0
  rw [e1] at g1
  rw [e2] at g2
  rw [e3] at g3
  rw [e4] at g4
  obtain ⟨kd, hkd, _, _⟩ := DataW.trod_int Try.underlying3 g0
  obtain ⟨s, hs, _, ws⟩ := DataW.trod_string Try.underlying9 g1
  obtain ⟨b, hb, _⟩ := DataW.trod_bool Try.underlying4 g3
  simp at hkd hs hb
  subst hkd hs hb
  obtain ⟨ns, h1, h2, h3, _⟩ := open_texts1 (c := c2) g2
  obtain ⟨X, k1, k2⟩ := open_nodes1 (c := c4) g4
  refine ⟨⟨kd, s.data.toList, c2, ns, b, c4, X⟩, fun i u hiu => ?_, ⟨by rw [Array.length_toList]; exact ws, h2, k2, h3⟩, h1, k1⟩
  have hi : i < 5 := by
    have := (List.getElem?_eq_some_iff.1 hiu).1
    simpa using this
  rw [hc i hi, str_eq]
  exact hiu
theorem open_dos {H : Type} {enc : TypeId × Value → H} {W : World} {a0 : Option Addr} {len cap fuel : Nat} {d : DataW H} {p : List MemPlace} (hf : DataW.trod enc Try.prog W 0 (fun _ => true) true fuel 23 [.slice a0 len cap] = some (d, p)) :
    ∃ X : List Dd, DoAt W (.slice a0 len cap) X ∧ X.length ≤ maxLen ∧ ∀ d ∈ X, d.k.length ≤ maxLen ∧ d.l.length ≤ maxLen ∧ d.nl.length ≤ maxLen ∧ ∀ s ∈ d.l, s.length ≤ maxLen := by
  obtain ⟨X, h1, h2, h3, h4⟩ := open_row Try.underlying23 cells40 (by decide) (⟨0, [], .slice none 0 0, [], false, .slice none 0 0, []⟩ : Dd) ddC (DoGood W) (fun q => rfl) do_one hf
  refine ⟨X, ⟨h1, fun q hq => ?_⟩, by omega, fun q hq => ?_⟩
  · obtain ⟨y, hy, _⟩ := h4 q hq
    exact hy.2
  · obtain ⟨y, hy, _⟩ := h4 q hq
    exact hy.1
end Go.Proofs.Ytikogljojnapaaa
