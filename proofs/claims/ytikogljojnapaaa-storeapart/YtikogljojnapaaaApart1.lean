/- Rows that were answered are spoilt: the stores stay. -/
import Derived.Test.YtikogljojnapaaaTell8
import Derived.Test.YtikogljojnapaaaCloneS
namespace Go.Proofs.Ytikogljojnapaaa
open Go.RowKit

variable {W wr w' : World} {sb vb fb xb c : Nat} {F : Vps} {H : Fps} {v fv gv pv : Value} {Y : Vrs} {n m : Nat}
/-- Both stores, in blocks from here on and up to there. -/
def DuoC (W wr : World) (c sb vb fb xb : Nat) (F : Vps) (H : Fps) : Prop := c ≤ wr.heap.size ∧ ∃ K, Duo wr K sb vb fb xb F H ∧ (∀ j, K j → W.heap.size ≤ j) ∧ Below W.heap.size W wr ∧ (∀ j, K j → j < c) ∧ W.heap.size ≤ c
theorem DuoB.toC (h : DuoB W wr sb vb fb xb F H) : DuoC W wr wr.heap.size sb vb fb xb F H := by
  obtain ⟨K, h1, h2, h3⟩ := h
  obtain ⟨V, G, vv, av, fv, P, A, Q, hS, _⟩ := id h1
  exact ⟨Nat.le_refl _, K, h1, h2, h3, hS.lt, h3.size⟩
theorem DuoC.toB (h : DuoC W wr c sb vb fb xb F H) : DuoB W wr sb vb fb xb F H := by
  obtain ⟨_, K, h1, h2, h3, _⟩ := h
  exact ⟨K, h1, h2, h3⟩
theorem DuoC.below' (h : DuoC W wr c sb vb fb xb F H) (hb : Below c wr w') : DuoC W w' c sb vb fb xb F H := by
  obtain ⟨h0, K, h1, h2, h3, h4, h5⟩ := h
  refine ⟨Nat.le_trans h0 hb.size, K, h1.turn (S := fun j => c ≤ j) ⟨hb.os, hb.tape, hb.output, hb.size, fun k _ hk => hb.block k (by omega)⟩ (fun j hj hc => by have := h4 j hj; omega), h2, h3.trans (hb.mono h5), h4, h5⟩
theorem DuoC.below (h : DuoC W wr c sb vb fb xb F H) (hb : Below wr.heap.size wr w') : DuoC W w' c sb vb fb xb F H := h.below' (hb.mono h.1)
theorem DuoC.bel (h : DuoC W wr c sb vb fb xb F H) : Below W.heap.size W wr := by
  obtain ⟨_, _, _, _, h3, _⟩ := h
  exact h3
theorem set_below {g i : Nat} (hg : c ≤ g) (x : Value) : Below c wr (wr.setCell ⟨g, i, none⟩ x) := (Below.refl c wr).setCell hg x
theorem getD {N : Nat} (h : DuoC W wr c sb vb fb xb F H) (hf : Fit F H N) (k : Txt) (hk : k.length ≤ maxLen) :
    Calls Try.prog 14 #[sP sb, str k] wr fun e w' => ∃ v' b m xs, e = .returned (.tuple #[v', .bool b]) ∧ w'.ownsRow wr.heap.size 9 1 v' m xs ∧ m ≤ 20 ∧ Below wr.heap.size wr w' := by
  obtain ⟨_, K, h1, _⟩ := h
  obtain ⟨V, G, vv, av, fv, P, A, Q, hS, _, hV, _⟩ := h1
  refine (get_any hS k hk).mono ?_
  rintro e w' ⟨v', rfl, ho, hb⟩
  refine ⟨v', _, _, _, rfl, ho, ?_, hb⟩
  rw [← cont_get V k (.slice none 0 0) [], hV]
  exact getM_small hf.fs k
theorem funD {N : Nat} (h : DuoC W wr c sb vb fb xb F H) (hf : Fit F H N) (k : Txt) (hk : k.length ≤ maxLen) :
    Calls Try.prog 16 #[fP sb, str k] wr fun e w' => ∃ v' b m xs, e = .returned (.tuple #[v', .bool b]) ∧ w'.ownsRow wr.heap.size 58 5 v' m xs ∧ m ≤ 20 ∧ Below wr.heap.size wr w' := by
  obtain ⟨_, K, h1, _⟩ := h
  obtain ⟨V, G, vv, av, fv, P, A, Q, hS, _, _, hG, _⟩ := h1
  refine (fun_any hS k hk).mono ?_
  rintro e w' ⟨v', rfl, ho, hb⟩
  refine ⟨v', _, _, _, rfl, ho, ?_, hb⟩
  rw [← cont_get G k (.slice none 0 0) [], hG]
  exact getM_smallF hf.hs k
theorem funsD (h : DuoC W wr c sb vb fb xb F H) (hf : Fit F H 1000) :
    Calls Try.prog 15 #[fP sb] wr fun e w' => ∃ v', e = .returned v' ∧ w'.ownsRow wr.heap.size 9 1 v' (H.map Prod.fst).length (txV (H.map Prod.fst)) ∧ Below wr.heap.size wr w' := by
  obtain ⟨_, K, h1, _⟩ := h
  obtain ⟨V, G, vv, av, fv, P, A, Q, hS, _, _, hG, _⟩ := h1
  have hl : G.length < 4294967296 := by
    have := hf.hl
    rw [← hG, cont_length] at this
    omega
  have := funs_any hS hl
  rw [← cont_names, hG] at this
  exact this
theorem varsD (h : DuoC W wr c sb vb fb xb F H) (hf : Fit F H 1000) :
    Calls Try.prog 13 #[sP sb] wr fun e w' => ∃ v' Y, e = .returned v' ∧ VaOwn w' wr.heap.size v' Y ∧ (Y.length ≤ 1000 ∧ ∀ p ∈ Y, p.1.length ≤ maxLen ∧ p.2.2.length ≤ 20) ∧ Below wr.heap.size wr w' := by
  obtain ⟨_, K, h1, _⟩ := h
  obtain ⟨V, G, vv, av, fv, P, A, Q, hS, _, hV, _⟩ := h1
  have hl : V.length < 4294967296 := by
    have := hf.fl
    rw [← hV, cont_length] at this
    omega
  refine (vars_any hS hl (fun p hp => (hf.fs _ (by rw [← hV]; exact cont_mem hp)).1)).mono ?_
  rintro e w' ⟨v', Y, rfl, ho, hc, hb⟩
  refine ⟨v', Y, rfl, ho, ⟨?_, fun p hp => ?_⟩, hb⟩
  · rw [← cont_length, hc, hV]
    exact Nat.le_trans (length_delM _ _) hf.fl
  · have := cont_mem hp
    rw [hc, hV] at this
    exact hf.fs _ (mem_delM this)
/-- A row to write into, from there on. -/
def Rwg (c : Nat) (W : World) (v : Value) (n t k : Nat) : Prop := n = 0 ∨ ∃ g cap cs, v = .slice (some ⟨g, 0, none⟩) n cap ∧ Cel W g t cs ∧ n * k ≤ cs.size ∧ c ≤ g
theorem Rwg.of {B t k n : Nat} {v : Value} {xs : List Value} (h : wr.ownsRow B t k v n xs) (hB : c ≤ B) : Rwg c wr v n t k := by
  rcases Rw.of h with h0 | ⟨g, cap, cs, hv, hc, hl⟩
  · exact .inl h0
  · exact .inr ⟨g, cap, cs, hv, hc, hl, Nat.le_trans hB (h.lt g (by rw [hv]; rfl)).1⟩
theorem Rwg.below {t k n : Nat} {v : Value} (h : Rwg c wr v n t k) (hb : Below wr.heap.size wr w') : Rwg c w' v n t k := by
  rcases h with h | ⟨g, cap, cs, h1, h2, h3⟩
  · exact .inl h
  · exact .inr ⟨g, cap, cs, h1, h2.turn (Turn.ofBelow (S := fun _ => False) hb) (fun h => h), h3⟩
/-- It stays one, whatever is written into a block. -/
theorem Rwg.write {t k n g i s : Nat} {v : Value} {ds : Array Value} (h : Rwg c wr v n t k) (hc : Cel wr g s ds) (x : Value) : Rwg c (wr.setCell ⟨g, i, none⟩ x) v n t k := by
  rcases h with h | ⟨g', cap, cs, h1, h2, h3, h4⟩
  · exact .inl h
  · by_cases e : g' = g
    · subst e
      have e2 := (show wr.heap[g']? = _ from h2).symm.trans (show wr.heap[g']? = _ from hc)
      simp at e2
      obtain ⟨rfl, rfl⟩ := e2
      exact .inr ⟨g', cap, _, h1, hc.set x, by simpa using h3, h4⟩
    · exact .inr ⟨g', cap, cs, h1, h2.other e x, h3, h4⟩
theorem row_write {B t k n g i s : Nat} {v : Value} {xs : List Value} {ds : Array Value} (h : wr.ownsRow B t k v n xs) (hc : Cel wr g s ds) (hne : s ≠ t) (x : Value) : (wr.setCell ⟨g, i, none⟩ x).ownsRow B t k v n xs := row_set hc h hne x
theorem Rwg.cell {t k n : Nat} {v : Value} (h : Rwg c wr v n t k) {j : Nat} (hj : j < n) (_hk : 0 < k) : ∃ g cap cs, v = .slice (some ⟨g, 0, none⟩) n cap ∧ Cel wr g t cs ∧ n * k ≤ cs.size ∧ c ≤ g := by
  rcases h with h | h
  · omega
  · exact h
/-- While the variables' lists are spoilt. -/
structure StA (W : World) (c sb vb fb xb : Nat) (F : Vps) (H : Fps) (v : Value) (Y : Vrs) (wr : World) : Prop where
  d : DuoC W wr c sb vb fb xb F H
  v : wr.ownsRow c 34 2 v Y.length (prCs Y)
  y : ∀ p ∈ Y, Rwg c wr p.2.1 p.2.2.length 9 1
theorem StA.below (h : StA W c sb vb fb xb F H v Y wr) (hb : Below wr.heap.size wr w') : StA W c sb vb fb xb F H v Y w' := ⟨h.d.below hb, owns_turn h.v (Turn.ofBelow (S := fun _ => False) hb) (fun _ _ h => h), fun p hp => (h.y p hp).below hb⟩
theorem StA.write (h : StA W c sb vb fb xb F H v Y wr) {g i : Nat} {ds : Array Value} (hc : Cel wr g 9 ds) (hg : c ≤ g) (x : Value) : StA W c sb vb fb xb F H v Y (wr.setCell ⟨g, i, none⟩ x) := ⟨h.d.below' (set_below hg x), row_write h.v hc (by decide) x, fun p hp => (h.y p hp).write hc x⟩
/-- Names that may be spoilt: texts all the same. -/
def StrRow (c : Nat) (W : World) (v : Value) (n : Nat) : Prop := n = 0 ∨ ∃ g cap cs, v = .slice (some ⟨g, 0, none⟩) n cap ∧ Cel W g 9 cs ∧ c ≤ g ∧ n ≤ cs.size ∧ ∀ j, j < n → ∃ s : Txt, cs[j]? = some (str s) ∧ s.length ≤ maxLen
theorem StrRow.of {B : Nat} {l : List Txt} {v : Value} (h : wr.ownsRow B 9 1 v l.length (txV l)) (hl : ∀ s ∈ l, s.length ≤ maxLen) (hB : c ≤ B) : StrRow c wr v l.length := by
  rcases h.2 with ⟨_, h0⟩ | ⟨g, cap, cur, hv, hb, hc, h1, h1', h2, h3⟩
  · exact .inl h0
  · refine .inr ⟨g, cap, cur, hv, hc, Nat.le_trans hB hb, by omega, fun j hj => ?_⟩
    refine ⟨l[j], ?_, hl _ (List.getElem_mem hj)⟩
    rw [← Array.getElem?_toList, ← List.getElem?_take_of_lt (show j < l.length * 1 by omega), h3, txV, List.getElem?_map, List.getElem?_eq_getElem hj]
    rfl
theorem StrRow.below {v : Value} {n : Nat} (h : StrRow c wr v n) (hb : Below wr.heap.size wr w') : StrRow c w' v n := by
  rcases h with h | ⟨g, cap, cs, h1, h2, h3⟩
  · exact .inl h
  · exact .inr ⟨g, cap, cs, h1, h2.turn (Turn.ofBelow (S := fun _ => False) hb) (fun h => h), h3⟩
theorem StrRow.write {v : Value} {n g i : Nat} {ds : Array Value} (h : StrRow c wr v n) (hc : Cel wr g 58 ds) (x : Value) : StrRow c (wr.setCell ⟨g, i, none⟩ x) v n := by
  rcases h with h | ⟨g', cap, cs, h1, h2, h3⟩
  · exact .inl h
  · refine .inr ⟨g', cap, cs, h1, h2.other (fun e => ?_) x, h3⟩
    subst e
    have := (show wr.heap[g']? = _ from h2).symm.trans (show wr.heap[g']? = _ from hc)
    simp at this
theorem StrRow.own {v : Value} {n i : Nat} (h : StrRow c wr v n) (hi : i < n) : ∃ g cap cs s, v = .slice (some ⟨g, 0, none⟩) n cap ∧ Cel wr g 9 cs ∧ c ≤ g ∧ wr.cell? ⟨g, i, none⟩ = some (str s) ∧ s.length ≤ maxLen ∧ ∀ t : Txt, t.length ≤ maxLen → StrRow c (wr.setCell ⟨g, i, none⟩ (str t)) v n := by
  rcases h with h | ⟨g, cap, cs, h1, h2, h3, h4, h5⟩
  · omega
  · obtain ⟨s, hs, hl⟩ := h5 i hi
    refine ⟨g, cap, cs, s, h1, h2, h3, by rw [h2.cell i]; exact hs, hl, fun t ht => .inr ⟨g, cap, _, h1, h2.set (str t), h3, by simpa using h4, fun j hj => ?_⟩⟩
    by_cases e : i = j
    · subst e
      exact ⟨t, by simp [show i < cs.size by omega], ht⟩
    · obtain ⟨s', hs', hl'⟩ := h5 j hj
      exact ⟨s', by rw [Array.getElem?_setIfInBounds_ne e]; exact hs', hl'⟩
/-- The clone, told whatever. -/
def Tb (c : Nat) (sb vb fb : Nat) (n : Nat) (wr : World) : Prop := ∃ K V G, Sto wr K sb vb fb V G ∧ Fit (cont V) (cont G) n ∧ (c ≤ sb ∧ c ≤ vb ∧ c ≤ fb)
theorem tellT {c tb tv tf n : Nat} (h : Tb c tb tv tf n wr) (hn : n ≤ 999) (hc : c ≤ wr.heap.size) (kd : Int) (k : Txt) (lv : Value) (l : List Txt) (b : Bool) (pv : Value) (nl : List Nd) (hlt : Tx wr lv l) (hnt : NdAt wr pv nl) (hll : l.length ≤ 20) (hnl : nl.length ≤ 20) (hk : k.length ≤ maxLen) :
    Calls Try.prog 11 #[sP tb, xP wr.heap.size, .agg (doC kd k lv b pv)] (wr.alloc (.cells #[.slice none 0 0, .slice none 0 0, .slice none 0 0] 32)) fun e w' => ∃ r, e = .returned (.bool r) ∧ Tb c tb tv tf (n + 1) w' ∧ Below c wr w' := by
  obtain ⟨K, V, G, hS, hf, h1, h2, h3⟩ := h
  have hb := below_new wr (.cells #[.slice none 0 0, .slice none 0 0, .slice none 0 0] 32)
  have hlt' : ∀ i, (K i ∨ i = wr.heap.size) → i < (wr.alloc (.cells #[.slice none 0 0, .slice none 0 0, .slice none 0 0] 32)).heap.size := fun i hi => by
    have : (wr.alloc (.cells #[.slice none 0 0, .slice none 0 0, .slice none 0 0] 32)).heap.size = wr.heap.size + 1 := by simp
    rw [this]
    rcases hi with hi | hi
    · have := hS.lt i hi
      omega
    · omega
  have ho : Opw (wr.alloc (.cells #[.slice none 0 0, .slice none 0 0, .slice none 0 0] 32)) (fun i => K i ∨ i = wr.heap.size) tb tv tf wr.heap.size V G (.slice none 0 0) (.slice none 0 0) (.slice none 0 0) [] [] [] :=
    ⟨(hS.below hb).mono (fun _ h => .inl h) hlt', (Rs.made wr).mono (fun _ h => .inr h) hlt'⟩
  refine (tell_weak ho n hn hf (by decide) (by decide) (by simp [Ris, cont]) (fun k => ?_) (by decide) kd k lv l b pv nl (hlt.below hb (Nat.le_refl _)) (hnt.below hb (Nat.le_refl _)) hll hnl hk).mono ?_
  · unfold rgetL
    split
    · simp
    · simp [getM]
  · rintro e w' ⟨r, K', V', G', rfl, hS', hf', hs⟩
    refine ⟨r, rfl, ⟨K', V', G', hS', hf', h1, h2, h3⟩, (hb.mono hc).trans (hs.1.below (fun i e => ?_) (Nat.le_trans hc hb.size))⟩
    rcases e with rfl | rfl | rfl
    · exact h2
    · exact h3
    · exact hc
theorem Tb.below {c tb tv tf n : Nat} (h : Tb c tb tv tf n wr) (hb : Below wr.heap.size wr w') : Tb c tb tv tf n w' := by
  obtain ⟨K, V, G, hS, r⟩ := h
  exact ⟨K, V, G, hS.below hb, r⟩
theorem cloneD {n : Nat} (h : DuoC W wr c sb vb fb xb F H) (hf : Fit F H n) : Calls Try.prog 12 #[sP sb] wr fun e w' => ∃ tb tv tf, e = .returned (sP tb) ∧ Tb wr.heap.size tb tv tf n w' ∧ Below wr.heap.size wr w' := by
  obtain ⟨_, K, h1, _⟩ := h
  obtain ⟨V, G, vv, av, fv, P, A, Q, hS, _, hV, hG, _⟩ := h1
  refine (cloneS hS).mono ?_
  rintro e w' ⟨tb, tv, tf, K', rfl, h2, h3, _, h5⟩
  exact ⟨tb, tv, tf, rfl, ⟨K', V, G, h2, by rw [hV, hG]; exact hf, h3⟩, h5⟩
end Go.Proofs.Ytikogljojnapaaa
