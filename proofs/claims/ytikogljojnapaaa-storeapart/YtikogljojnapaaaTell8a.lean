/- A store is told something beside another of the document's, whatever that says. -/
import Derived.Test.YtikogljojnapaaaPlays
namespace Go.Proofs.Ytikogljojnapaaa
open Go.RowKit

variable {W w2 w3 w4 : World} {K K3 K4 : Nat → Prop} {sb vb fb xb : Nat} {vv av fv vv' av' fv' u u' : Value} {V P P' V' V4 : Vrs} {A A' : List Txt} {G Q Q' G' G4 : Fns} {k : Txt} {l : List Txt} {nl : List Nd}
/-- Two stores in one set of blocks. -/
structure Opw (W : World) (K : Nat → Prop) (sb vb fb xb : Nat) (V : Vrs) (G : Fns) (vv av fv : Value) (P : Vrs) (A : List Txt) (Q : Fns) : Prop where
  s : Sto W K sb vb fb V G
  r : Rs W K xb vv av fv P A Q
theorem Opw.below {W W' : World} (h : Opw W K sb vb fb xb V G vv av fv P A Q) (hb : Below W.heap.size W W') : Opw W' K sb vb fb xb V G vv av fv P A Q := ⟨h.s.below hb, h.r.below hb⟩
theorem wk (h : Opw w2 K sb vb fb xb V G vv av fv P A Q) (h3 : Sto w3 K3 sb vb fb V' G') (hs3 : Stp vb fb w2 K w3 K3) (h4 : Rs w4 K4 xb vv' av' fv' P' A' Q') (hs4 : Stx xb w3 (fun i => K i ∨ K3 i) w4 K4) :
    Sto w4 K4 sb vb fb V' G' ∧ Stq vb fb xb w2 K w4 K4 := by
  obtain ⟨b1, b2⟩ := Sto.both h.s h.r h3 hs3
  exact ⟨(b1.turnx b2 hs4.1).mono hs4.2.2 h4.lt, Stq.of hs3 hs4⟩
theorem Stq.early {W W' : World} {K K' : Nat → Prop} {vb fb xb : Nat} (h : Stp vb fb W K W' K') : Stq vb fb xb W K W' K' := ⟨h.1.mono (fun _ hi => hi.imp id .inl), h.2⟩
theorem Stq.pre {W w2 W' : World} {K K' : Nat → Prop} {vb fb xb : Nat} (hb : Below W.heap.size W w2) (h : Stq vb fb xb w2 K W' K') : Stq vb fb xb W K W' K' := ⟨(Turn.ofBelow hb).trans h.1 (fun _ hi _ => hi), fun i hi => (h.2 i hi).imp id (Nat.le_trans hb.size)⟩
theorem Stq.post {W w2 W' : World} {K K' : Nat → Prop} {vb fb xb : Nat} (h : Stq vb fb xb W K w2 K') (hb : Below w2.heap.size w2 W') : Stq vb fb xb W K W' K' := ⟨h.1.trans (Turn.ofBelow hb) (fun _ hi _ => hi), h.2⟩
/-- What is left of a store that was told. -/
def Left (n : Nat) (W : World) (K : Nat → Prop) (sb vb fb xb : Nat) (e : Ending) (w' : World) : Prop := ∃ r K' V' G', e = .returned (.bool r) ∧ Sto w' K' sb vb fb V' G' ∧ Fit (cont V') (cont G') n ∧ Stq vb fb xb W K w' K'
/-- Both stores while the rows are spoilt. -/
structure SplW (a c : Nat) (w4 : World) (K4 : Nat → Prop) (sb vb fb : Nat) (V4 : Vrs) (G4 : Fns) (mv nv : Value) (n m : Nat) (wr : World) : Prop where
  d : Sto wr K4 sb vb fb V4 G4
  rm : Rw wr mv n 9 1
  rn : Rw wr nv m 58 5
  t : Turn (fun j => a ≤ j ∧ j < c) w4 wr
  mb : ∀ b, mv.ownBlock = some b → a ≤ b ∧ b < c
  nb : ∀ b, nv.ownBlock = some b → a ≤ b ∧ b < c
  k : ∀ i, K4 i → ¬ (a ≤ i ∧ i < c)
theorem SplW.one {a c : Nat} {mv nv : Value} {n m : Nat} {wr : World} (h : SplW a c w4 K4 sb vb fb V4 G4 mv nv n m wr) {i : Nat} (hi : i < n) : ∃ g cap u, mv = .slice (some ⟨g, 0, none⟩) n cap ∧ wr.cell? ⟨g, i, none⟩ = some u ∧ wr.frozen? ⟨g, i, none⟩ = false ∧ ∀ x, SplW a c w4 K4 sb vb fb V4 G4 mv nv n m (wr.setCell ⟨g, i, none⟩ x) := by
  rcases h.rm with h0 | ⟨g, cap, cs, rfl, hc, h2⟩
  · omega
  · have hci : i < cs.size := by omega
    refine ⟨g, cap, cs[i], rfl, ?_, hc.frozen i, fun x => ?_⟩
    · rw [hc.cell i]
      exact Array.getElem?_eq_getElem hci
    · have hT := turn_set wr g i x
      have hg := h.mb g rfl
      refine ⟨h.d.turn hT (fun j hj e => h.k j hj (by rw [e]; exact hg)), .inr ⟨g, cap, _, rfl, hc.set x, by simpa using h2⟩, ?_, h.t.trans (hT.mono (fun j e => by rw [e]; exact hg)) (fun _ hj _ => hj), h.mb, h.nb, h.k⟩
      rcases h.rn with h0 | ⟨g2, cap2, cs2, hv2, hc2, h3⟩
      · exact .inl h0
      · refine .inr ⟨g2, cap2, cs2, hv2, hc2.turn hT (fun e => ?_), h3⟩
        subst e
        have := (show wr.heap[g2]? = _ from hc).symm.trans (show wr.heap[g2]? = _ from hc2)
        simp at this
theorem SplW.two {a c : Nat} {mv nv : Value} {n m : Nat} {wr : World} (h : SplW a c w4 K4 sb vb fb V4 G4 mv nv n m wr) {i : Nat} (hi : i < m) : ∃ g cap u, nv = .slice (some ⟨g, 0, none⟩) m cap ∧ wr.cell? ⟨g, i * 5 + 4, none⟩ = some u ∧ wr.frozen? ⟨g, i * 5 + 4, none⟩ = false ∧ ∀ x, SplW a c w4 K4 sb vb fb V4 G4 mv nv n m (wr.setCell ⟨g, i * 5 + 4, none⟩ x) := by
  rcases h.rn with h0 | ⟨g, cap, cs, rfl, hc, h2⟩
  · omega
  · have hci : i * 5 + 4 < cs.size := by omega
    refine ⟨g, cap, cs[i * 5 + 4], rfl, ?_, hc.frozen _, fun x => ?_⟩
    · rw [hc.cell _]
      exact Array.getElem?_eq_getElem hci
    · have hT := turn_set wr g (i * 5 + 4) x
      have hg := h.nb g rfl
      refine ⟨h.d.turn hT (fun j hj e => h.k j hj (by rw [e]; exact hg)), ?_, .inr ⟨g, cap, _, rfl, hc.set x, by simpa using h2⟩, h.t.trans (hT.mono (fun j e => by rw [e]; exact hg)) (fun _ hj _ => hj), h.mb, h.nb, h.k⟩
      rcases h.rm with h0 | ⟨g2, cap2, cs2, hv2, hc2, h3⟩
      · exact .inl h0
      · refine .inr ⟨g2, cap2, cs2, hv2, hc2.turn hT (fun e => ?_), h3⟩
        subst e
        have := (show wr.heap[g2]? = _ from hc).symm.trans (show wr.heap[g2]? = _ from hc2)
        simp at this
/-- The spoiling begins. -/
theorem SplW.of {W w2 w4 : World} {mv nv : Value} {n m : Nat} {xs ys : List Value} (_hb : Below W.heap.size W w2) (hK : ∀ i, K i → i < W.heap.size) (hm : w2.ownsRow W.heap.size 9 1 mv n xs) (hn : w2.ownsRow W.heap.size 58 5 nv m ys) {V : Vrs} {G : Fns} {vv av fv : Value} {P : Vrs} {A : List Txt} {Q : Fns} (ho : Opw w2 K sb vb fb xb V G vv av fv P A Q)
    (hD : Sto w4 K4 sb vb fb V4 G4) (hs : Stq vb fb xb w2 K w4 K4)   : SplW W.heap.size w2.heap.size w4 K4 sb vb fb V4 G4 mv nv n m w4 := by
  have key : ∀ {e k m : Nat} {u : Value} {xs : List Value}, 32 ≠ e → w2.ownsRow W.heap.size e k u m xs → w4.ownsRow W.heap.size e k u m xs := fun hne ho' => owns_turn ho' hs.1 (fun b hb e => by
    rcases e with rfl | rfl | rfl
    · exact map_apart ho.s.vm ho' hb
    · exact map_apart ho.s.fm ho' hb
    · exact owns_apart ho.r.xc ho' hne hb)
  refine ⟨hD, Rw.of (key (by decide) hm), Rw.of (key (by decide) hn), Turn.refl _ _, fun b h => hm.lt b h, fun b h => hn.lt b h, fun i hi hh => ?_⟩
  rcases hs.2 i hi with h1 | h1
  · have := hK i h1
    omega
  · omega
/-- All that is owed at the end. -/
theorem SplW.fin {W w2 w4 wr : World} {mv nv : Value} {n m : Nat} (h : SplW W.heap.size w2.heap.size w4 K4 sb vb fb V4 G4 mv nv n m wr) (hb : Below W.heap.size W w2) (hs : Stq vb fb xb w2 K w4 K4) : ∃ K', Sto wr K' sb vb fb V4 G4 ∧ Stq vb fb xb W K wr K' := by
  refine ⟨K4, h.d, ?_, fun i hi => (hs.2 i hi).imp id (Nat.le_trans hb.size)⟩
  have h1 : Turn (fun i => i = vb ∨ i = fb ∨ i = xb) W w4 := (Turn.ofBelow hb).trans hs.1 (fun _ hi _ => hi)
  refine ⟨h.t.os.trans h1.os, h.t.tape.trans h1.tape, h.t.output.trans h1.output, Nat.le_trans h1.size h.t.size, fun j hj hn => ?_⟩
  rw [h.t.block j (Nat.lt_of_lt_of_le hj h1.size) (fun e => by omega)]
  exact h1.block j hj hn
theorem Opw.cel {W W' : World} (h : Opw W K sb vb fb xb V G vv av fv P A Q) (hT : Tur vb fb W W') {b t : Nat} {cs : Array Value} (hc : Cel W b t cs) : Cel W' b t cs := cel_tur h.s hT hc
theorem Opw.tx {W W' : World} (h : Opw W K sb vb fb xb V G vv av fv P A Q) (hT : Tur vb fb W W') {v : Value} {ps : List Txt} (ht : Tx W v ps) : Tx W' v ps := by
  rcases ht with ht | ⟨ad, cap, h1, h2, h3⟩
  · exact .inl ht
  · refine .inr ⟨ad, cap, h1, h2, fun hne => ?_⟩
    obtain ⟨g, o, rfl, h4, h5⟩ := h3 hne
    obtain ⟨p, hp⟩ := mem_iff_some (List.length_pos_iff.2 hne)
    have hcell := h5 0 p hp
    have hg : ¬ (g = vb ∨ g = fb) := by
      rintro (rfl | rfl)
      · obtain ⟨es, cl, hb, _⟩ := h.s.vm
        simp [World.cell?, hb] at hcell
      · obtain ⟨es, cl, hb, _⟩ := h.s.fm
        simp [World.cell?, hb] at hcell
    exact ⟨g, o, rfl, Nat.lt_of_lt_of_le h4 hT.size, fun k p hp => (World.cell?_of_block (w := W) (a := ⟨g, o + k, none⟩) (hT.block g h4 hg)).trans (h5 k p hp)⟩
theorem Opw.nd {W W' : World} (h : Opw W K sb vb fb xb V G vv av fv P A Q) (hT : Tur vb fb W W') {v : Value} {X : List Nd} (ht : NdAt W v X) : NdAt W' v X := by
  rcases ht with ht | ⟨g, o, cap, h1, h2, h3, h4⟩
  · exact .inl ht
  · by_cases hX : X = []
    · subst hX
      exact .inl ⟨rfl, .inr ⟨_, cap, h1⟩⟩
    · obtain ⟨x, hx⟩ := mem_iff_some (List.length_pos_iff.2 hX)
      have hcell := h4 0 (ndC x) (by rw [List.getElem?_map, hx]; rfl) 0 _ rfl
      have hg : ¬ (g = vb ∨ g = fb) := by
        rintro (rfl | rfl)
        · obtain ⟨es, cl, hb, _⟩ := h.s.vm
          simp [World.cell?, hb] at hcell
        · obtain ⟨es, cl, hb, _⟩ := h.s.fm
          simp [World.cell?, hb] at hcell
      exact .inr ⟨g, o, cap, h1, h2, Nat.lt_of_lt_of_le h3 hT.size, fun j cs hj i u hu => (World.cell?_of_block (w := W) (a := ⟨g, o + j * 5 + i, none⟩) (hT.block g h3 hg)).trans (h4 j cs hj i u hu)⟩
end Go.Proofs.Ytikogljojnapaaa
