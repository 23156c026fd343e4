/- What leaves both stores as they are; what a step of both is, as plain lists. -/
import Derived.Test.YtikogljojnapaaaDuo
namespace Go.Proofs.Ytikogljojnapaaa
open Go.RowKit

section
variable {α : Type}
abbrev Ris (F : List (Txt × α)) : Prop := F.Pairwise fun p q => bytesBefore p.1 q.1 = true
theorem Ris.del {F : List (Txt × α)} (h : Ris F) (k : Txt) : Ris (delM F k) := List.Pairwise.filter _ h
theorem insM_front (x : Txt × α) : ∀ L : List (Txt × α), (∀ p ∈ L, bytesBefore x.1 p.1 = true) → insM x L = x :: L
  | [], _ => rfl
  | y :: r, h => by rw [insM, if_pos (h y (by simp))]
theorem del_ins (x : Txt × α) (k : Txt) (hk : (x.1 == k) = false) : ∀ F : List (Txt × α), Ris F → delM (insM x F) k = insM x (delM F k)
  | [], _ => by simp [insM, delM, hk]
  | y :: r, hF => by
    obtain ⟨hy, hr⟩ := List.pairwise_cons.1 hF
    have d1 : ∀ z : Txt × α, ∀ L : List (Txt × α), (z.1 == k) = false → delM (z :: L) k = z :: delM L k := fun z L h => by simp [delM, h]
    have d2 : ∀ z : Txt × α, ∀ L : List (Txt × α), (z.1 == k) = true → delM (z :: L) k = delM L k := fun z L h => by simp [delM, h]
    by_cases hb : bytesBefore x.1 y.1 = true
    · rw [insM, if_pos hb, d1 x _ hk]
      cases e : (y.1 == k) with
      | false => rw [d1 y _ e, insM, if_pos hb]
      | true =>
        rw [d2 y _ e]
        exact (insM_front x _ (fun p hp => bb_trans _ _ _ hb (hy p (mem_delM hp)))).symm
    · rw [insM, if_neg hb]
      cases e : (y.1 == k) with
      | false => rw [d1 y _ e, d1 y _ e, del_ins x k hk r hr, insM, if_neg hb]
      | true => rw [d2 y _ e, d2 y _ e, del_ins x k hk r hr]
theorem del_ins_same (x : Txt × α) : ∀ F : List (Txt × α), delM (insM x F) x.1 = delM F x.1
  | [] => by simp [insM, delM]
  | y :: r => by
    unfold insM
    split
    · simp [delM]
    · have := del_ins_same x r
      unfold delM at this ⊢
      simp only [List.filter_cons, this]
theorem del_del (F : List (Txt × α)) (j k : Txt) : delM (delM F j) k = delM (delM F k) j := by
  unfold delM
  rw [List.filter_filter, List.filter_filter]
  congr 1
  funext p
  exact Bool.and_comm _ _
theorem del_idem (F : List (Txt × α)) (k : Txt) : delM (delM F k) k = delM F k := by
  unfold delM
  rw [List.filter_filter]
  congr 1
  funext p
  exact Bool.and_self _
theorem noStar_put {F : List (Txt × α)} (h : Ris F) (k : Txt) (d : α) : noStar (putM F k d) = if k = star then noStar F else putM (noStar F) k d := by
  unfold putM
  rw [noStar_del]
  split
  · rename_i e
    subst e
    rw [del_ins_same (star, d), del_idem]
    rfl
  · rename_i e
    rw [del_ins (k, d) star (by simpa using e) _ (h.del k), del_del]
    rfl
theorem getM_del_other (F : List (Txt × α)) (k j : Txt) (z : α) (h : (j == k) = false) : getM (delM F k) j z = getM F j z := by
  unfold getM
  rw [find_delM_other F k j h]
theorem hasM_del_other (F : List (Txt × α)) (k j : Txt) (h : (j == k) = false) : hasM (delM F k) j = hasM F j := by
  rw [hasM_find, hasM_find, find_delM_other F k j h]
end
/-- What the document's store holds of this. -/
def Rel (F : Vps) (P : Vps) (A : List Txt) : Prop := P = noStar F ∧ A = getM F star [] ∧ hasM F star = true
theorem ne_star {k : Txt} (h : ¬ k = star) : (star == k) = false := by
  simp only [beq_eq_false_iff_ne, ne_eq]
  exact fun e => h e.symm
theorem Rel.put {F P : Vps} {A : List Txt} (h : Rel F P A) (hr : Ris F) (k : Txt) (l : List Txt) : Rel (putM F k l) (if k = star then P else putM P k l) (if k = star then l else A) := by
  obtain ⟨rfl, rfl, h3⟩ := h
  refine ⟨(noStar_put hr k l).symm, ?_, ?_⟩
  · split
    · rename_i e
      subst e
      exact (getM_put_same _ _ _ _).symm
    · rename_i e
      exact (getM_put_other _ _ _ _ _ (ne_star e)).symm
  · by_cases e : k = star
    · subst e
      exact hasM_put_same _ _ _
    · rw [hasM_put_other _ _ _ _ (ne_star e)]
      exact h3
theorem Rel.uns {F P : Vps} {A : List Txt} (h : Rel F P A) (hr : Ris F) (k : Txt) : Rel (unsP F k) (if k = star then P else delM P k) (if k = star then [] else A) := by
  by_cases e : k = star
  · subst e
    have := h.put hr star []
    unfold unsP
    rw [if_pos rfl] at this ⊢
    rw [if_pos rfl] at this ⊢
    rw [if_pos rfl]
    exact this
  · obtain ⟨rfl, rfl, h3⟩ := h
    unfold unsP
    rw [if_neg e, if_neg e, if_neg e]
    refine ⟨?_, (getM_del_other _ _ _ _ (ne_star e)).symm, ?_⟩
    · rw [noStar_del, noStar_del, del_del]
    · rw [hasM_del_other _ _ _ (ne_star e)]
      exact h3
variable {W W' : World} {K K' S : Nat → Prop} {sb vb fb xb : Nat} {vv av fv : Value} {V P : Vrs} {A : List Txt} {G Q : Fns} {F : Vps} {H : Fps}
theorem Sto.mono (h : Sto W K sb vb fb V G) (hK : ∀ i, K i → K' i) (hlt : ∀ i, K' i → i < W.heap.size) : Sto W K' sb vb fb V G :=
  ⟨h.sc, h.vm, h.fm, fun p hp => (h.vt p hp).mono hK, fun p hp => (h.ft p hp).mono hK, h.vl, h.fl, hK _ h.Ks, hK _ h.Kv, hK _ h.Kf, h.ne, hlt⟩
theorem Rs.mono (h : Rs W K xb vv av fv P A Q) (hK : ∀ i, K i → K' i) (hlt : ∀ i, K' i → i < W.heap.size) : Rs W K' xb vv av fv P A Q :=
  ⟨h.xc, h.vr, h.fr, h.ar.mono hK, fun p hp => (h.vt p hp).mono hK, fun p hp => (h.ft p hp).mono hK, hK _ h.Kx, fun b hb => hK b (h.Kv b hb), fun b hb => hK b (h.Kf b hb), hlt⟩
/-- Maps turn: the document's store stays. -/
theorem Rs.tur (h : Rs W K xb vv av fv P A Q) (hS : Sto W K' sb vb fb V G) (hT : Tur vb fb W W') : Rs W' K xb vv av fv P A Q := by
  have key : ∀ {C e k m : Nat} {u : Value} {xs : List Value}, W.ownsRow C e k u m xs → W'.ownsRow C e k u m xs := fun ho => owns_turn ho hT (fun b hb e => by rcases e with rfl | rfl; exact map_apart hS.vm ho hb; exact map_apart hS.fm ho hb)
  exact ⟨h.xc.turn hT (fun e => by rcases e with rfl | rfl; exact map_apart_cel hS.vm h.xc rfl; exact map_apart_cel hS.fm h.xc rfl), key h.vr, key h.fr, ⟨key h.ar.1, h.ar.2⟩, fun p hp => ⟨key (h.vt p hp).1, (h.vt p hp).2⟩, fun p hp => ⟨key (h.ft p hp).1, (h.ft p hp).2⟩, h.Kx, h.Kv, h.Kf, fun i hi => Nat.lt_of_lt_of_le (h.lt i hi) hT.size⟩
/-- The document's block turns: the store stays. -/
theorem Sto.turnx (h : Sto W K sb vb fb V G) (hR : Rs W K' xb vv av fv P A Q) (hT : Turn (fun i => i = xb) W W') : Sto W' K sb vb fb V G := by
  have key : ∀ {C e k m : Nat} {u : Value} {xs : List Value}, 32 ≠ e → W.ownsRow C e k u m xs → W'.ownsRow C e k u m xs := fun hne ho => owns_turn ho hT (fun b hb e => owns_apart hR.xc ho hne (by rw [hb, e]))
  have hsx : sb ≠ xb := by
    rintro rfl
    have := (show W.heap[sb]? = _ from h.sc).symm.trans (show W.heap[sb]? = _ from hR.xc)
    simp at this
  exact ⟨h.sc.turn hT hsx, map_turn h.vm hT (fun e => map_apart_cel h.vm hR.xc e.symm), map_turn h.fm hT (fun e => map_apart_cel h.fm hR.xc e.symm), fun p hp => ⟨key (by decide) (h.vt p hp).1, (h.vt p hp).2⟩, fun p hp => ⟨key (by decide) (h.ft p hp).1, (h.ft p hp).2⟩, h.vl, h.fl, h.Ks, h.Kv, h.Kf, h.ne, fun i hi => Nat.lt_of_lt_of_le (h.lt i hi) hT.size⟩
theorem Sto.ris (h : Sto W K sb vb fb V G) : Ris (cont V) ∧ Ris (cont G) := by
  unfold Ris cont
  rw [List.pairwise_map, List.pairwise_map]
  exact ⟨map_rising h.vm, map_rising h.fm⟩
theorem Duo.turn (h : Duo W K sb vb fb xb F H) (hT : Turn S W W') (hs : ∀ i, K i → ¬ S i) : Duo W' K sb vb fb xb F H := by
  obtain ⟨V, G, vv, av, fv, P, A, Q, hS, hR, r⟩ := h
  exact ⟨V, G, vv, av, fv, P, A, Q, hS.turn hT hs, hR.turn hT hs, r⟩
theorem Duo.below (h : Duo W K sb vb fb xb F H) (hb : Below W.heap.size W W') : Duo W' K sb vb fb xb F H := h.turn (S := fun _ => False) (Turn.ofBelow hb) (fun _ _ h => h)
/-- Behind a step of both. -/
def Stq (vb fb xb : Nat) (W : World) (K : Nat → Prop) (W' : World) (K' : Nat → Prop) : Prop := Turn (fun i => i = vb ∨ i = fb ∨ i = xb) W W' ∧ ∀ i, K' i → K i ∨ W.heap.size ≤ i
theorem Stq.of (h : Stp vb fb W K W' K') {W2 : World} {K2 : Nat → Prop} (k : Stx xb W' (fun i => K i ∨ K' i) W2 K2) : Stq vb fb xb W K W2 K2 :=
  ⟨(h.1.mono (fun _ hi => hi.imp id .inl)).trans (k.1.mono (fun _ hi => Or.inr (Or.inr hi))) (fun _ hi _ => hi), fun i hi => (k.2.1 i hi).elim (fun h1 => h1.elim .inl (h.2 i)) (fun h1 => .inr (Nat.le_trans h.1.size h1))⟩
/-- The store has taken its step: both, in one set of blocks. -/
theorem Sto.both {V' : Vrs} {G' : Fns} (hS : Sto W K sb vb fb V G) (hR : Rs W K xb vv av fv P A Q) (hS' : Sto W' K' sb vb fb V' G') (hs : Stp vb fb W K W' K') : Sto W' (fun i => K i ∨ K' i) sb vb fb V' G' ∧ Rs W' (fun i => K i ∨ K' i) xb vv av fv P A Q := by
  have hlt : ∀ i, (K i ∨ K' i) → i < W'.heap.size := fun i hi => hi.elim (fun h => Nat.lt_of_lt_of_le (hS.lt i h) hs.1.size) (hS'.lt i)
  exact ⟨hS'.mono (fun _ h => .inr h) hlt, (hR.tur hS hs.1).mono (fun _ h => .inl h) hlt⟩
/-- A row to write into, whatever it holds. -/
def Rw (W : World) (v : Value) (n t k : Nat) : Prop := n = 0 ∨ ∃ g cap cs, v = .slice (some ⟨g, 0, none⟩) n cap ∧ Cel W g t cs ∧ n * k ≤ cs.size
theorem Rw.of {B t k n : Nat} {v : Value} {xs : List Value} (h : W.ownsRow B t k v n xs) : Rw W v n t k := by
  rcases h.2 with ⟨_, h0⟩ | ⟨g, cap, cur, hv, hb, hc, h1, h1', h2, h3⟩
  · exact .inl h0
  · refine .inr ⟨g, cap, cur, hv, hc, ?_⟩
    have h4 := h.1
    have := congrArg List.length h3
    rw [List.length_take, h4, Array.length_toList] at this
    omega
theorem Rw.turn {v : Value} {n t k : Nat} (h : Rw W v n t k) (hT : Turn S W W') (hs : ∀ b, v.ownBlock = some b → ¬ S b) : Rw W' v n t k := by
  rcases h with h | ⟨g, cap, cs, rfl, hc, h2⟩
  · exact .inl h
  · exact .inr ⟨g, cap, cs, rfl, hc.turn hT (hs g rfl), h2⟩
end Go.Proofs.Ytikogljojnapaaa
