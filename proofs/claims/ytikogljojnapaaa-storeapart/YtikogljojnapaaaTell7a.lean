/- Both stores are told something. -/
import Derived.Test.YtikogljojnapaaaDuo2
namespace Go.Proofs.Ytikogljojnapaaa
open Go.RowKit

variable {W w2 w3 w4 : World} {K K3 K4 : Nat → Prop} {sb vb fb xb : Nat} {vv av fv vv' av' fv' u u' : Value} {V P : Vrs} {A : List Txt} {G Q Q' : Fns} {F : Vps} {H : Fps} {k : Txt} {l : List Txt} {nl : List Nd}
/-- Both stores, laid open. -/
structure Opn (W : World) (K : Nat → Prop) (sb vb fb xb : Nat) (F : Vps) (H : Fps) (V : Vrs) (G : Fns) (vv av fv : Value) (P : Vrs) (A : List Txt) (Q : Fns) : Prop where
  s : Sto W K sb vb fb V G
  r : Rs W K xb vv av fv P A Q
  v : cont V = F
  g : cont G = H
  rel : Rel F (cont P) A
  q : cont Q = H
theorem Duo.opn {W : World} (h : Duo W K sb vb fb xb F H) : ∃ V G vv av fv P A Q, Opn W K sb vb fb xb F H V G vv av fv P A Q := by
  obtain ⟨V, G, vv, av, fv, P, A, Q, h1, h2, h3, h4, h5, h6, h7, h8⟩ := h
  exact ⟨V, G, vv, av, fv, P, A, Q, h1, h2, h3, h4, ⟨h5, h6, h8⟩, h7⟩
theorem Opn.duo {W : World} (h : Opn W K sb vb fb xb F H V G vv av fv P A Q) : Duo W K sb vb fb xb F H := ⟨V, G, vv, av, fv, P, A, Q, h.s, h.r, h.v, h.g, h.rel.1, h.rel.2.1, h.q, h.rel.2.2⟩
theorem Opn.below {W W' : World} (h : Opn W K sb vb fb xb F H V G vv av fv P A Q) (hb : Below W.heap.size W W') : Opn W' K sb vb fb xb F H V G vv av fv P A Q := ⟨h.s.below hb, h.r.below hb, h.v, h.g, h.rel, h.q⟩
theorem duo_set (h : Opn w2 K sb vb fb xb F H V G vv av fv P A Q) (h3 : Sto w3 K3 sb vb fb (putM V k (u, l)) G) (hs3 : Stp vb fb w2 K w3 K3) (h4 : Rs w4 K4 xb vv' av' fv (setRP P k (u', l)) (setRA A k l) Q) (hs4 : Stx xb w3 (fun i => K i ∨ K3 i) w4 K4) :
    Duo w4 K4 sb vb fb xb (putM F k l) H ∧ Stq vb fb xb w2 K w4 K4 := by
  obtain ⟨b1, b2⟩ := Sto.both h.s h.r h3 hs3
  have hris : Ris F := by rw [← h.v]; exact h.s.ris.1
  have hrel := h.rel.put hris k l
  refine ⟨(⟨(b1.turnx b2 hs4.1).mono hs4.2.2 h4.lt, h4, ?_, h.g, ?_, h.q⟩ : Opn _ _ _ _ _ _ _ _ _ _ _ _ _ _ _ _).duo, Stq.of hs3 hs4⟩
  · rw [cont_put, h.v]
  · have e1 : cont (setRP P k (u', l)) = if k = star then cont P else putM (cont P) k l := by
      unfold setRP
      split
      · rfl
      · exact cont_put P k (u', l)
    rw [e1]
    exact hrel
theorem duo_uns (h : Opn w2 K sb vb fb xb F H V G vv av fv P A Q) (h3 : Sto w3 K3 sb vb fb (unsM V k u) G) (hs3 : Stp vb fb w2 K w3 K3) (h4 : Rs w4 K4 xb vv' av' fv (unsR P k) (unsA A k) Q) (hs4 : Stx xb w3 (fun i => K i ∨ K3 i) w4 K4) :
    Duo w4 K4 sb vb fb xb (unsP F k) H ∧ Stq vb fb xb w2 K w4 K4 := by
  obtain ⟨b1, b2⟩ := Sto.both h.s h.r h3 hs3
  have hris : Ris F := by rw [← h.v]; exact h.s.ris.1
  have hrel := h.rel.uns hris k
  refine ⟨(⟨(b1.turnx b2 hs4.1).mono hs4.2.2 h4.lt, h4, ?_, h.g, ?_, h.q⟩ : Opn _ _ _ _ _ _ _ _ _ _ _ _ _ _ _ _).duo, Stq.of hs3 hs4⟩
  · rw [cont_uns, h.v]
  · have e1 : cont (unsR P k) = if k = star then cont P else delM (cont P) k := by
      unfold unsR
      split
      · rfl
      · exact cont_del P k
    rw [e1]
    exact hrel
theorem duo_fun (h : Opn w2 K sb vb fb xb F H V G vv av fv P A Q) (h3 : Sto w3 K3 sb vb fb V (putM G k (u, nl))) (hs3 : Stp vb fb w2 K w3 K3) (h4 : Rs w4 K4 xb vv av fv' P A Q') (hq : cont Q' = putM (cont Q) k nl) (hs4 : Stx xb w3 (fun i => K i ∨ K3 i) w4 K4) :
    Duo w4 K4 sb vb fb xb F (putM H k nl) ∧ Stq vb fb xb w2 K w4 K4 := by
  obtain ⟨b1, b2⟩ := Sto.both h.s h.r h3 hs3
  refine ⟨(⟨(b1.turnx b2 hs4.1).mono hs4.2.2 h4.lt, h4, h.v, ?_, h.rel, ?_⟩ : Opn _ _ _ _ _ _ _ _ _ _ _ _ _ _ _ _).duo, Stq.of hs3 hs4⟩
  · rw [cont_put, h.g]
  · rw [hq, h.q]
/-- What a thing told makes of both. -/
def tellF (kd : Int) (k : Txt) (l : List Txt) (b : Bool) (F : Vps) : Vps := if kd = 1 then putM F k l else if kd = 2 then unsP F k else if kd = 3 then swpP F k b l else if kd = 4 then putM F star l else F
def tellH (kd : Int) (k : Txt) (nl : List Nd) (H : Fps) : Fps := if kd = 1 ∨ kd = 2 ∨ kd = 3 ∨ kd = 4 then H else putM H k nl
/-- What is told, in its own block. -/
abbrev doC (kd : Int) (k : Txt) (lv : Value) (b : Bool) (pv : Value) : Array Value := #[.int .i64 kd, str k, lv, .bool b, pv]
def ToldD (db : Nat) (kd : Int) (k : Txt) (lv : Value) (b : Bool) (pv : Value) (W : World) : Prop := Hid (Cel W db 40 (doC kd k lv b pv))
theorem cel_tur {W W' : World} (hS : Sto W K sb vb fb V G) (hT : Tur vb fb W W') {b t : Nat} {cs : Array Value} (hc : Cel W b t cs) : Cel W' b t cs :=
  hc.turn hT (fun e => by rcases e with rfl | rfl; exact map_apart_cel hS.vm hc rfl; exact map_apart_cel hS.fm hc rfl)
/-- The two rows that are spoilt. -/
structure Two (W W2 : World) (mv nv : Value) (n m : Nat) : Prop where
  rm : Rw W2 mv n 9 1
  rn : Rw W2 nv m 58 5
  mb : ∀ b, mv.ownBlock = some b → W.heap.size ≤ b ∧ b < W2.heap.size
  nb : ∀ b, nv.ownBlock = some b → W.heap.size ≤ b ∧ b < W2.heap.size
/-- Both stores while the rows are spoilt. -/
structure Spl (a c : Nat) (w4 : World) (K4 : Nat → Prop) (sb vb fb xb : Nat) (F : Vps) (H : Fps) (mv nv : Value) (n m : Nat) (wr : World) : Prop where
  d : Duo wr K4 sb vb fb xb F H
  rm : Rw wr mv n 9 1
  rn : Rw wr nv m 58 5
  t : Turn (fun j => a ≤ j ∧ j < c) w4 wr
  mb : ∀ b, mv.ownBlock = some b → a ≤ b ∧ b < c
  nb : ∀ b, nv.ownBlock = some b → a ≤ b ∧ b < c
  k : ∀ i, K4 i → ¬ (a ≤ i ∧ i < c)
theorem Spl.one {a c : Nat} {mv nv : Value} {n m : Nat} {wr : World} (h : Spl a c w4 K4 sb vb fb xb F H mv nv n m wr) {i : Nat} (hi : i < n) : ∃ g cap u, mv = .slice (some ⟨g, 0, none⟩) n cap ∧ wr.cell? ⟨g, i, none⟩ = some u ∧ wr.frozen? ⟨g, i, none⟩ = false ∧ ∀ x, Spl a c w4 K4 sb vb fb xb F H mv nv n m (wr.setCell ⟨g, i, none⟩ x) := by
  rcases h.rm with h0 | ⟨g, cap, cs, rfl, hc, h2⟩
  · omega
  · have hci : i < cs.size := by omega
    refine ⟨g, cap, cs[i], rfl, ?_, hc.frozen i, fun x => ?_⟩
    · rw [hc.cell i]
      exact Array.getElem?_eq_getElem hci
    · have hT := turn_set wr g i x
      have hg := h.mb g rfl
      refine ⟨h.d.turn hT (fun j hj e => h.k j hj (by rw [e]; exact hg)), .inr ⟨g, cap, _, rfl, hc.set x, by simpa using h2⟩, ?_, h.t.trans (hT.mono (fun j e => by rw [e]; exact hg)) (fun _ hj _ => hj), h.mb, h.nb, h.k⟩
      rcases h.rn with h0 | ⟨g2, cap2, cs2, hv2, hc2, h3⟩
      · exact .inl h0
      · refine .inr ⟨g2, cap2, cs2, hv2, hc2.turn hT (fun e => ?_), h3⟩
        subst e
        have := (show wr.heap[g2]? = _ from hc).symm.trans (show wr.heap[g2]? = _ from hc2)
        simp at this
theorem Spl.two {a c : Nat} {mv nv : Value} {n m : Nat} {wr : World} (h : Spl a c w4 K4 sb vb fb xb F H mv nv n m wr) {i : Nat} (hi : i < m) : ∃ g cap u, nv = .slice (some ⟨g, 0, none⟩) m cap ∧ wr.cell? ⟨g, i * 5 + 4, none⟩ = some u ∧ wr.frozen? ⟨g, i * 5 + 4, none⟩ = false ∧ ∀ x, Spl a c w4 K4 sb vb fb xb F H mv nv n m (wr.setCell ⟨g, i * 5 + 4, none⟩ x) := by
  rcases h.rn with h0 | ⟨g, cap, cs, rfl, hc, h2⟩
  · omega
  · have hci : i * 5 + 4 < cs.size := by omega
    refine ⟨g, cap, cs[i * 5 + 4], rfl, ?_, hc.frozen _, fun x => ?_⟩
    · rw [hc.cell _]
      exact Array.getElem?_eq_getElem hci
    · have hT := turn_set wr g (i * 5 + 4) x
      have hg := h.nb g rfl
      refine ⟨h.d.turn hT (fun j hj e => h.k j hj (by rw [e]; exact hg)), ?_, .inr ⟨g, cap, _, rfl, hc.set x, by simpa using h2⟩, h.t.trans (hT.mono (fun j e => by rw [e]; exact hg)) (fun _ hj _ => hj), h.mb, h.nb, h.k⟩
      rcases h.rm with h0 | ⟨g2, cap2, cs2, hv2, hc2, h3⟩
      · exact .inl h0
      · refine .inr ⟨g2, cap2, cs2, hv2, hc2.turn hT (fun e => ?_), h3⟩
        subst e
        have := (show wr.heap[g2]? = _ from hc).symm.trans (show wr.heap[g2]? = _ from hc2)
        simp at this
/-- The spoiling begins. -/
theorem Spl.of {W w2 w4 : World} {mv nv : Value} {n m : Nat} {xs ys : List Value} (_hb : Below W.heap.size W w2) (hK : ∀ i, K i → i < W.heap.size) (hm : w2.ownsRow W.heap.size 9 1 mv n xs) (hn : w2.ownsRow W.heap.size 58 5 nv m ys) {V : Vrs} {G : Fns} {vv av fv : Value} {P : Vrs} {A : List Txt} {Q : Fns} {F0 : Vps} {H0 : Fps} (ho : Opn w2 K sb vb fb xb F0 H0 V G vv av fv P A Q)
    (hD : Duo w4 K4 sb vb fb xb F H) (hs : Stq vb fb xb w2 K w4 K4) : Spl W.heap.size w2.heap.size w4 K4 sb vb fb xb F H mv nv n m w4 := by
  have key : ∀ {e k m : Nat} {u : Value} {xs : List Value}, 32 ≠ e → w2.ownsRow W.heap.size e k u m xs → w4.ownsRow W.heap.size e k u m xs := fun hne ho' => owns_turn ho' hs.1 (fun b hb e => by
    rcases e with rfl | rfl | rfl
    · exact map_apart ho.s.vm ho' hb
    · exact map_apart ho.s.fm ho' hb
    · exact owns_apart ho.r.xc ho' hne hb)
  refine ⟨hD, Rw.of (key (by decide) hm), Rw.of (key (by decide) hn), Turn.refl _ _, fun b h => hm.lt b h, fun b h => hn.lt b h, fun i hi hh => ?_⟩
  rcases hs.2 i hi with h1 | h1
  · have := hK i h1
    omega
  · omega
/-- All that is owed at the end. -/
theorem Spl.fin {W w2 w4 wr : World} {mv nv : Value} {n m : Nat} (h : Spl W.heap.size w2.heap.size w4 K4 sb vb fb xb F H mv nv n m wr) (hb : Below W.heap.size W w2) (hs : Stq vb fb xb w2 K w4 K4) : ∃ K', Duo wr K' sb vb fb xb F H ∧ Stq vb fb xb W K wr K' := by
  refine ⟨K4, h.d, ?_, fun i hi => (hs.2 i hi).imp id (Nat.le_trans hb.size)⟩
  have h1 : Turn (fun i => i = vb ∨ i = fb ∨ i = xb) W w4 := (Turn.ofBelow hb).trans hs.1 (fun _ hi _ => hi)
  refine ⟨h.t.os.trans h1.os, h.t.tape.trans h1.tape, h.t.output.trans h1.output, Nat.le_trans h1.size h.t.size, fun j hj hn => ?_⟩
  rw [h.t.block j (Nat.lt_of_lt_of_le hj h1.size) (fun e => by omega)]
  exact h1.block j hj hn
theorem Opn.cel {W W' : World} {F0 : Vps} {H0 : Fps} (h : Opn W K sb vb fb xb F0 H0 V G vv av fv P A Q) (hT : Tur vb fb W W') {b t : Nat} {cs : Array Value} (hc : Cel W b t cs) : Cel W' b t cs := cel_tur h.s hT hc
theorem Opn.tx {W W' : World} {F0 : Vps} {H0 : Fps} (h : Opn W K sb vb fb xb F0 H0 V G vv av fv P A Q) (hT : Tur vb fb W W') {v : Value} {ps : List Txt} (ht : Tx W v ps) : Tx W' v ps := by
  rcases ht with ht | ⟨ad, cap, h1, h2, h3⟩
  · exact .inl ht
  · refine .inr ⟨ad, cap, h1, h2, fun hne => ?_⟩
    obtain ⟨g, o, rfl, h4, h5⟩ := h3 hne
    obtain ⟨p, hp⟩ := mem_iff_some (List.length_pos_iff.2 hne)
    have hcell := h5 0 p hp
    have hg : ¬ (g = vb ∨ g = fb) := by
      rintro (rfl | rfl)
      · obtain ⟨es, cl, hb, _⟩ := h.s.vm
        simp [World.cell?, hb] at hcell
      · obtain ⟨es, cl, hb, _⟩ := h.s.fm
        simp [World.cell?, hb] at hcell
    exact ⟨g, o, rfl, Nat.lt_of_lt_of_le h4 hT.size, fun k p hp => (World.cell?_of_block (w := W) (a := ⟨g, o + k, none⟩) (hT.block g h4 hg)).trans (h5 k p hp)⟩
theorem Opn.nd {W W' : World} {F0 : Vps} {H0 : Fps} (h : Opn W K sb vb fb xb F0 H0 V G vv av fv P A Q) (hT : Tur vb fb W W') {v : Value} {X : List Nd} (ht : NdAt W v X) : NdAt W' v X := by
  rcases ht with ht | ⟨g, o, cap, h1, h2, h3, h4⟩
  · exact .inl ht
  · by_cases hX : X = []
    · subst hX
      exact .inl ⟨rfl, .inr ⟨_, cap, h1⟩⟩
    · obtain ⟨x, hx⟩ := mem_iff_some (List.length_pos_iff.2 hX)
      have hcell := h4 0 (ndC x) (by rw [List.getElem?_map, hx]; rfl) 0 _ rfl
      have hg : ¬ (g = vb ∨ g = fb) := by
        rintro (rfl | rfl)
        · obtain ⟨es, cl, hb, _⟩ := h.s.vm
          simp [World.cell?, hb] at hcell
        · obtain ⟨es, cl, hb, _⟩ := h.s.fm
          simp [World.cell?, hb] at hcell
      exact .inr ⟨g, o, cap, h1, h2, Nat.lt_of_lt_of_le h3 hT.size, fun j cs hj i u hu => (World.cell?_of_block (w := W) (a := ⟨g, o + j * 5 + i, none⟩) (hT.block g h3 hg)).trans (h4 j cs hj i u hu)⟩
end Go.Proofs.Ytikogljojnapaaa
