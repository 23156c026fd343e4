/- A kernel in memory, and what leaves it as it is. -/
import Derived.Test.YthhghkjgffcpeaaDoorMem
namespace Go.Proofs.YthhghkjgffcpeaaDoor
open Go.RowKit

theorem key9 : Maps.Keyed Tryd.prog 9 := Maps.string_keyed Tryd.underlying9
theorem keyOf9 (k : Txt) (h : k.length ≤ maxLen) : keyOf Tryd.prog 9 (str k) = some (.string k) := by
  simp [keyOf, mapKey, Tryd.underlying9]
  show k.toArray.size ≤ maxLen
  simpa using h

/-- A kernel: its blocks, its files, its rows, its events. -/
structure Kern (W : World) (K : Nat → Prop) (kb mb : Nat) (ev rv : Value) (F : Fls) (Y : List (Rw × Value)) (X : List (Ev × Value)) : Prop where
  kc : Cel W kb 57 #[ev, .map (some mb), rv]
  fm : W.ownsMap Tryd.prog 9 flE mb F.length (dF F)
  er : W.ownsRow 0 70 5 ev X.length (evCs X)
  rr : W.ownsRow 0 77 7 rv Y.length (rwCs Y)
  xt : ∀ p ∈ X, Ot W K p.2 p.1.l
  yt : ∀ p ∈ Y, Ot W K p.2 p.1.args
  Kk : K kb
  Km : K mb
  Ke : ∀ b, ev.ownBlock = some b → K b
  Kr : ∀ b, rv.ownBlock = some b → K b
  lt : ∀ i, K i → i < W.heap.size

variable {W W' : World} {K K' S : Nat → Prop} {kb mb : Nat} {ev rv : Value} {F : Fls} {Y : List (Rw × Value)} {X : List (Ev × Value)}

theorem map_turn {b n : Nat} {D : DataW Unit} (h : W.ownsMap Tryd.prog 9 flE b n D) (hT : Turn S W W') (hs : ¬ S b) : W'.ownsMap Tryd.prog 9 flE b n D := by
  have hlt := h.lt
  obtain ⟨es, clock, hb, r⟩ := h
  exact ⟨es, clock, (hT.block b hlt hs).trans hb, r⟩
theorem map_tight {b n : Nat} (h : W.ownsMap Tryd.prog 9 flE b n (dF F)) : W.ownsMap Tryd.prog 9 flE b F.length (dF F) := by
  obtain ⟨es, clock, hb, r, hn, hD⟩ := h
  refine ⟨es, clock, hb, r, ?_, hD⟩
  have e1 : Maps.size (dF F) = F.length := by simp [dF, Maps.size]
  rw [← e1, hD]
  simp [Maps.size, length_sorted]

theorem Kern.turn (h : Kern W K kb mb ev rv F Y X) (hT : Turn S W W') (hs : ∀ i, K i → ¬ S i) : Kern W' K kb mb ev rv F Y X := {
  kc := h.kc.turn hT (hs _ h.Kk)
  fm := map_turn h.fm hT (hs _ h.Km)
  er := owns_turn h.er hT fun b hb => hs b (h.Ke b hb)
  rr := owns_turn h.rr hT fun b hb => hs b (h.Kr b hb)
  xt := fun p hp => (h.xt p hp).turn hT fun b hb => hs b ((h.xt p hp).2 b hb)
  yt := fun p hp => (h.yt p hp).turn hT fun b hb => hs b ((h.yt p hp).2 b hb)
  Kk := h.Kk
  Km := h.Km
  Ke := h.Ke
  Kr := h.Kr
  lt := fun i hi => Nat.lt_of_lt_of_le (h.lt i hi) hT.size }
theorem Kern.below (h : Kern W K kb mb ev rv F Y X) (hb : Below W.heap.size W W') : Kern W' K kb mb ev rv F Y X :=
  h.turn (S := fun _ => False) (Turn.ofBelow hb) (fun _ _ h => h)
theorem Kern.drew (h : Kern W K kb mb ev rv F Y X) : Kern W.drew K kb mb ev rv F Y X := h.below (Below.refl _ W).drew

/-- A block that is a map is no row. -/
theorem map_apart {b n B e k m : Nat} {D : DataW Unit} {v : Value} {xs : List Value} (h : W.ownsMap Tryd.prog 9 flE b n D) (ho : W.ownsRow B e k v m xs) : v.ownBlock ≠ some b := by
  obtain ⟨es, clock, hb, _⟩ := h
  rcases ho.2 with ⟨rfl, _⟩ | ⟨g, cap, cur, rfl, _, hgb, _⟩
  · simp [Value.ownBlock]
  · intro e'
    obtain rfl : g = b := by simpa [Value.ownBlock] using e'
    rw [hb] at hgb
    cases hgb
theorem map_apart_cel {b n b' t : Nat} {D : DataW Unit} {cs : Array Value} (h : W.ownsMap Tryd.prog 9 flE b n D) (hc : Cel W b' t cs) : b' ≠ b := by
  obtain ⟨es, clock, hb, _⟩ := h
  rintro rfl
  have := (show W.heap[b']? = _ from hc).symm.trans hb
  cases this

/-- Behind a step: which blocks have turned, and which are the kernel's then. -/
def Stp (W : World) (K : Nat → Prop) (W' : World) (K' : Nat → Prop) : Prop := Turn K W W' ∧ ∀ i, K' i → K i ∨ W.heap.size ≤ i
theorem Stp.refl (W : World) (K : Nat → Prop) : Stp W K W K := ⟨Turn.refl K W, fun _ h => .inl h⟩
theorem Stp.trans {W1 W2 : World} {K1 K2 : Nat → Prop} (h : Stp W K W1 K1) (k : Stp W1 K1 W2 K2) : Stp W K W2 K2 :=
  ⟨h.1.trans k.1 (fun i hi hlt => (h.2 i hi).elim id (fun h2 => absurd hlt (by omega))), fun i hi => (k.2 i hi).elim (fun h1 => h.2 i h1) (fun h1 => .inr (Nat.le_trans h.1.size h1))⟩
theorem Stp.below {B : Nat} (h : Stp W K W' K') (hK : ∀ i, K i → B ≤ i) (hB : B ≤ W.heap.size) : Below B W W' ∧ ∀ i, K' i → B ≤ i :=
  ⟨h.1.below hK hB, fun i hi => (h.2 i hi).elim (hK i) (Nat.le_trans hB)⟩
theorem Stp.ofBelow (h : Below W.heap.size W W') : Stp W K W' K := ⟨Turn.ofBelow h, fun _ h => .inl h⟩

/-- The map is written. -/
theorem Kern.put (h : Kern W K kb mb ev rv F Y X) {k d : Txt} {n : Nat} (hm : W'.ownsMap Tryd.prog 9 flE mb n ((dF F).put (.string k) (fD (k, d)))) (hg : W.grownBy W' (some mb)) :
    Kern W' K kb mb ev rv (putF F k d) Y X ∧ Stp W K W' K := by
  have hT := Turn.ofGrown hg
  rw [dF_put] at hm
  refine ⟨⟨h.kc.turn hT (fun e => map_apart_cel h.fm h.kc (Option.some.inj e).symm), map_tight hm, owns_turn h.er hT (fun b hb e => map_apart h.fm h.er (hb.trans e.symm)), owns_turn h.rr hT (fun b hb e => map_apart h.fm h.rr (hb.trans e.symm)), ?_, ?_, h.Kk, h.Km, h.Ke, h.Kr, fun i hi => Nat.lt_of_lt_of_le (h.lt i hi) hT.size⟩, hT.mono (fun i e => by cases e; exact h.Km), fun _ h => .inl h⟩
  · exact fun p hp => (h.xt p hp).turn hT (fun b hb e => map_apart h.fm (h.xt p hp).1 (hb.trans e.symm))
  · exact fun p hp => (h.yt p hp).turn hT (fun b hb e => map_apart h.fm (h.yt p hp).1 (hb.trans e.symm))

/-- An event is added behind: the row in W1 (appended), then the cell set. -/
theorem Kern.noted (h : Kern W K kb mb ev rv F Y X) {W1 : World} {e : Ev} {lv ev' : Value} {Kl : Nat → Prop} (hl : Ot W Kl lv e.l)
    (ho : W1.ownsRow 0 70 5 ev' (X.length + 1) (evCs X ++ evC e lv)) (hg : W.grownBy W1 ev.ownBlock) (hat : ev'.ownBlock = ev.ownBlock ∨ ∃ b, ev'.ownBlock = some b ∧ W.heap.size ≤ b) :
    ∃ K', Kern (W1.setCell ⟨kb, 0, none⟩ ev') K' kb mb ev' rv F Y (X ++ [(e, lv)]) ∧ Turn K W (W1.setCell ⟨kb, 0, none⟩ ev') ∧ ∀ i, K' i → K i ∨ (∃ b, lv.ownBlock = some b ∧ i = b) ∨ W.heap.size ≤ i := by
  have hT := Turn.ofGrown hg
  have hkc1 : Cel W1 kb 57 #[ev, .map (some mb), rv] := h.kc.turn hT (fun e => owns_apart h.kc h.er (by decide) e)
  have hsz : W.heap.size ≤ W1.heap.size := hT.size
  have hT2 : Turn (fun i => i = kb) W1 (W1.setCell ⟨kb, 0, none⟩ ev') := (Turn.refl (fun i => i = kb) W1).setCell (p := ⟨kb, 0, none⟩) (fun _ => rfl) ev'
  have hs2 : (W1.setCell ⟨kb, 0, none⟩ ev').heap.size = W1.heap.size := by simp [World.setCell]
  have rowk : ∀ {e k n : Nat} {v : Value} {xs : List Value}, W1.ownsRow 0 e k v n xs → 57 ≠ e → ∀ b, v.ownBlock = some b → ¬ b = kb := fun ho hne b hb e' => owns_apart hkc1 ho hne (by rw [hb, e'])
  have row2 : ∀ {e k n : Nat} {v : Value} {xs : List Value}, W.ownsRow 0 e k v n xs → 57 ≠ e → 70 ≠ e → (W1.setCell ⟨kb, 0, none⟩ ev').ownsRow 0 e k v n xs := fun ho h1 h2 => by
    have o1 := owns_turn ho hT (fun b hb e' => owns_apart2 h.er ho h2 b e' hb)
    exact owns_turn o1 hT2 (rowk o1 h1)
  refine ⟨fun i => K i ∨ (lv.ownBlock = some i) ∨ (ev'.ownBlock = some i), ⟨?_, ?_, ?_, row2 h.rr (by decide) (by decide), ?_, ?_, .inl h.Kk, .inl h.Km, fun b hb => .inr (.inr hb), fun b hb => .inl (h.Kr b hb), ?_⟩, ?_, ?_⟩
  · exact hkc1.set ev'
  · refine map_turn (map_turn h.fm hT (fun e' => map_apart h.fm h.er e')) hT2 (fun e' => ?_)
    exact map_apart_cel h.fm h.kc e'.symm
  · refine owns_turn ?_ hT2 (rowk ho (by decide))
    rw [evCs_snoc, List.length_append]
    exact ho
  · intro p hp
    rcases List.mem_append.1 hp with hp | hp
    · exact ⟨row2 (h.xt p hp).1 (by decide) (by decide), fun b hb => .inl ((h.xt p hp).2 b hb)⟩
    · simp only [List.mem_singleton] at hp
      subst hp
      exact ⟨row2 hl.1 (by decide) (by decide), fun b hb => .inr (.inl hb)⟩
  · exact fun p hp => ⟨row2 (h.yt p hp).1 (by decide) (by decide), fun b hb => .inl ((h.yt p hp).2 b hb)⟩
  · intro i hi
    rw [hs2]
    rcases hi with hi | hi | hi
    · exact Nat.lt_of_lt_of_le (h.lt i hi) hsz
    · exact Nat.lt_of_lt_of_le (hl.1.lt i hi).2 hsz
    · exact (ho.lt i hi).2
  · refine (hT.mono (fun i e' => h.Ke i e')).trans hT2 (fun i e' _ => by subst e'; exact h.Kk)
  · intro i hi
    rcases hi with hi | hi | hi
    · exact .inl hi
    · exact .inr (.inl ⟨i, hi, rfl⟩)
    · rcases hat with e' | ⟨b, e', hb⟩
      · exact .inl (h.Ke i (by rw [← e']; exact hi))
      · rw [hi] at e'
        cases e'
        exact .inr (.inr hb)
end Go.Proofs.YthhghkjgffcpeaaDoor
