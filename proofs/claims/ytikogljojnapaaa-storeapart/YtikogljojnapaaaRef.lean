/- The document's store in memory, and what it tells. -/
import Derived.Test.YtikogljojnapaaaFunsPlain
namespace Go.Proofs.Ytikogljojnapaaa
open Go.RowKit

section
variable {α : Type}
def prCs (P : List (Txt × Value × α)) : List Value := P.flatMap fun p => [str p.1, p.2.1]
theorem prCs_snoc (P : List (Txt × Value × α)) (p : Txt × Value × α) : prCs (P ++ [p]) = prCs P ++ [str p.1, p.2.1] := by simp [prCs]
theorem prCs_append (P Q : List (Txt × Value × α)) : prCs (P ++ Q) = prCs P ++ prCs Q := by simp [prCs]
theorem prCs_length (P : List (Txt × Value × α)) : (prCs P).length = P.length * 2 := by
  induction P with
  | nil => rfl
  | cons p P ih => simp [prCs] at ih ⊢; omega
theorem prCs_flat (P : List (Txt × Value × α)) : (P.map fun p => [str p.1, p.2.1]).flatMap id = prCs P := by simp [prCs, List.flatMap_map]
/-- The two cells of one of them. -/
theorem pr_at {W : World} {B t : Nat} {v : Value} {P : List (Txt × Value × α)} (h : W.ownsRow B t 2 v P.length (prCs P)) {j : Nat} {p : Txt × Value × α} (hj : P[j]? = some p) :
    ∃ g cap, v = .slice (some ⟨g, 0, none⟩) P.length cap ∧ P.length ≤ cap ∧ W.cell? ⟨g, j * 2, none⟩ = some (str p.1) ∧ W.cell? ⟨g, j * 2 + 1, none⟩ = some p.2.1 := by
  rcases h.2 with ⟨_, h0⟩ | ⟨g, cap, cur, hv, hb, hc, h1, h1', h2, h3⟩
  · rw [List.eq_nil_of_length_eq_zero h0] at hj
    simp at hj
  · have hjl := (List.getElem?_eq_some_iff.1 hj).1
    have key : ∀ i u, [str p.1, p.2.1][i]? = some u → W.cell? ⟨g, j * 2 + i, none⟩ = some u := by
      intro i u hu
      have hf := flat_at 2 (P.map fun p => [str p.1, p.2.1]) (fun cs hcs => by obtain ⟨q, _, rfl⟩ := List.mem_map.1 hcs; rfl) j [str p.1, p.2.1] (by rw [List.getElem?_map, hj]; rfl) i u hu
      rw [prCs_flat] at hf
      have hlt := (List.getElem?_eq_some_iff.1 hf).1
      rw [prCs_length] at hlt
      have e1 : W.cell? ⟨g, j * 2 + i, none⟩ = cur[j * 2 + i]? := by simp [World.cell?, hc]
      rw [e1, ← Array.getElem?_toList, ← List.getElem?_take_of_lt hlt, h3]
      exact hf
    exact ⟨g, cap, hv, h1, key 0 _ rfl, key 1 _ rfl⟩
theorem find_upto {P : List (Txt × α)} {k : Txt} {i : Nat} {p : Txt × α} (h : ∀ j q, j < i → P[j]? = some q → (q.1 == k) = false) (hp : P[i]? = some p) (hk : (p.1 == k) = true) : P.find? (fun q => q.1 == k) = some p := by
  have hl := (List.getElem?_eq_some_iff.1 hp).1
  rw [List.find?_eq_some_iff_getElem]
  refine ⟨hk, i, hl, (List.getElem?_eq_some_iff.1 hp).2, fun j hj => ?_⟩
  have := h j P[j] hj (List.getElem?_eq_getElem _)
  rw [this]
  rfl
theorem find_no {P : List (Txt × α)} {k : Txt} (h : ∀ j q, j < P.length → P[j]? = some q → (q.1 == k) = false) : P.find? (fun q => q.1 == k) = none := by
  rw [List.find?_eq_none]
  intro q hq
  obtain ⟨j, hj, rfl⟩ := List.mem_iff_getElem.1 hq
  rw [h j _ hj (List.getElem?_eq_getElem hj)]
  simp
end

/-- The document's store: its blocks, its variables, arguments, functions. -/
structure Rs (W : World) (K : Nat → Prop) (xb : Nat) (vv av fv : Value) (P : Vrs) (A : List Txt) (Q : Fns) : Prop where
  xc : Cel W xb 32 #[vv, av, fv]
  vr : W.ownsRow 0 34 2 vv P.length (prCs P)
  fr : W.ownsRow 0 74 2 fv Q.length (prCs Q)
  ar : Ot W K av A
  vt : ∀ p ∈ P, Ot W K p.2.1 p.2.2
  ft : ∀ p ∈ Q, On W K p.2.1 p.2.2
  Kx : K xb
  Kv : ∀ b, vv.ownBlock = some b → K b
  Kf : ∀ b, fv.ownBlock = some b → K b
  lt : ∀ i, K i → i < W.heap.size
variable {W W' : World} {K K' S : Nat → Prop} {xb : Nat} {vv av fv : Value} {P : Vrs} {A : List Txt} {Q : Fns}
theorem Rs.turn (h : Rs W K xb vv av fv P A Q) (hT : Turn S W W') (hs : ∀ i, K i → ¬ S i) : Rs W' K xb vv av fv P A Q := {
  xc := h.xc.turn hT (hs _ h.Kx)
  vr := owns_turn h.vr hT fun b hb => hs b (h.Kv b hb)
  fr := owns_turn h.fr hT fun b hb => hs b (h.Kf b hb)
  ar := h.ar.turn hT fun b hb => hs b (h.ar.2 b hb)
  vt := fun p hp => (h.vt p hp).turn hT fun b hb => hs b ((h.vt p hp).2 b hb)
  ft := fun p hp => (h.ft p hp).turn hT fun b hb => hs b ((h.ft p hp).2 b hb)
  Kx := h.Kx
  Kv := h.Kv
  Kf := h.Kf
  lt := fun i hi => Nat.lt_of_lt_of_le (h.lt i hi) hT.size }
theorem Rs.below (h : Rs W K xb vv av fv P A Q) (hb : Below W.heap.size W W') : Rs W' K xb vv av fv P A Q := h.turn (S := fun _ => False) (Turn.ofBelow hb) (fun _ _ h => h)
abbrev xP (b : Nat) : Value := .pointer (some ⟨b, 0, none⟩)
def rgetV (P : Vrs) (av : Value) (k : Txt) : Value := if k = star then av else (getM P k nilT).1
def rgetL (P : Vrs) (A : List Txt) (k : Txt) : List Txt := if k = star then A else (getM P k nilT).2
def rgetB (P : Vrs) (k : Txt) : Bool := if k = star then true else hasM P k
theorem Rs.got (h : Rs W K xb vv av fv P A Q) (k : Txt) : Tx W (rgetV P av k) (rgetL P A k) := by
  unfold rgetV rgetL
  split
  · exact h.ar.tx
  · cases e : hasM P k with
    | false =>
      rw [getM_none e]
      exact Tx.nil W
    | true => exact (h.vt _ (getM_mem (z := nilT) e)).tx
theorem Rs.gotF (h : Rs W K xb vv av fv P A Q) (k : Txt) : NdAt W (getM Q k nilN).1 (getM Q k nilN).2 := by
  cases e : hasM Q k with
  | false =>
    rw [getM_none e]
    exact NdAt.nil W
  | true => exact (h.ft _ (getM_mem (z := nilN) e)).at
theorem mem_iff_some {α : Type} {l : List α} {i : Nat} (h : i < l.length) : ∃ p, l[i]? = some p := ⟨_, List.getElem?_eq_getElem h⟩
set_option maxRecDepth 100000 in
set_option maxHeartbeats 2000000 in
theorem rget_any (h : Rs W K xb vv av fv P A Q) (k : Txt) (hP : P.length < 4294967296) :
    Calls Try.prog 27 #[xP xb, str k] W fun e w' => e = .returned (.tuple #[rgetV P av k, .bool (rgetB P k)]) ∧ w' = W := by
  have c0 : W.cell? ⟨xb, 0, none⟩ = some vv := h.xc.cell 0
  have c1 : W.cell? ⟨xb, 1, none⟩ = some av := h.xc.cell 1
  have HR : Hid (W.ownsRow 0 34 2 vv P.length (prCs P)) := h.vr
  obtain ⟨adv, capv, rfl⟩ := owns_slice h.vr
  obtain ⟨ada, capa, rfl⟩ := h.ar.tx.form
  clear h
  by_cases hs : k = star
  · subst hs
    have e1 : rgetV P (.slice ada A.length capa) star = .slice ada A.length capa := if_pos rfl
    have e2 : rgetB P star = true := if_pos rfl
    rw [e1, e2]
    go_enter Try.func27, Try.ntmps27
    go_wp2_with fail
    go_ret2
    exact ⟨rfl, rfl⟩
  · have hb : (k == [42]) = false := by simpa using hs
    have e1 : rgetV P (.slice ada A.length capa) k = (getM P k nilT).1 := if_neg hs
    have e2 : rgetB P k = hasM P k := if_neg hs
    rw [e1, e2]
    clear e1 e2 hs
    have HF : Hid (∀ (i : Nat) (p : Txt × Value × List Txt), (∀ (j : Nat) (q : Txt × Value × List Txt), j < i → P[j]? = some q → (q.1 == k) = false) → P[i]? = some p → (p.1 == k) = true → (getM P k nilT).1 = p.2.1 ∧ hasM P k = true) := fun i p h1 h2 h3 => by
      have := find_upto h1 h2 h3
      rw [hasM_find, getM, this]
      exact ⟨rfl, rfl⟩
    have HN : Hid ((∀ (j : Nat) (q : Txt × Value × List Txt), j < P.length → P[j]? = some q → (q.1 == k) = false) → (getM P k nilT).1 = .slice none 0 0 ∧ hasM P k = false) := fun h1 => by
      have := find_no h1
      rw [hasM_find, getM, this]
      exact ⟨rfl, rfl⟩
    generalize (getM P k nilT).1 = rv at *
    generalize hasM P k = rb at *
    go_enter Try.func27, Try.ntmps27
    go_wp2_with fail
    go_loopw [6] (fun v6 wr => ∃ i : Nat, v6 = .int .i64 i ∧ i ≤ P.length ∧ wr = W ∧ Hid (∀ (j : Nat) (q : Txt × Value × List Txt), j < i → P[j]? = some q → (q.1 == k) = false)) (fun v6 _ => P.length - (intOf v6).toNat)
    case atStart => exact ⟨0, rfl, Nat.zero_le _, rfl, fun j q hj => absurd hj (Nat.not_lt_zero _)⟩
    case round =>
      obtain ⟨i, rfl, hi, rfl, HI⟩ := hrel
      by_cases hil : i < P.length
      · obtain ⟨p, hp⟩ := mem_iff_some hil
        obtain ⟨g, cap, hv, _, d0, d1⟩ := pr_at HR.out hp
        cases hv
        cases hq : (p.1 == k) with
        | true =>
          obtain ⟨rfl, rfl⟩ := HF.out i p HI.out hp hq
          clear hp
          go_wp2_with fail
          go_ret2
          exact ⟨rfl, rfl⟩
        | false =>
          have HI2 : Hid (∀ (j : Nat) (q : Txt × Value × List Txt), j < i + 1 → P[j]? = some q → (q.1 == k) = false) := fun j q hj hq2 => by
            rcases Nat.lt_or_ge j i with h1 | h1
            · exact HI.out j q h1 hq2
            · rw [show j = i by omega, hp] at hq2
              cases hq2
              exact hq
          clear hp
          go_wp2_with fail
          exact ⟨⟨i + 1, by simp, by omega, trivial, HI2⟩, by simp [intOf]; omega⟩
      · have hie : i = P.length := by omega
        subst hie
        obtain ⟨rfl, rfl⟩ := HN.out HI.out
        go_wp2_with fail
        go_ret2
        exact ⟨rfl, rfl⟩
set_option maxRecDepth 100000 in
set_option maxHeartbeats 2000000 in
theorem rfun_any (h : Rs W K xb vv av fv P A Q) (k : Txt) (hQ : Q.length < 4294967296) :
    Calls Try.prog 28 #[xP xb, str k] W fun e w' => e = .returned (.tuple #[(getM Q k nilN).1, .bool (hasM Q k)]) ∧ w' = W := by
  have c0 : W.cell? ⟨xb, 2, none⟩ = some fv := h.xc.cell 2
  have HR : Hid (W.ownsRow 0 74 2 fv Q.length (prCs Q)) := h.fr
  obtain ⟨adv, capv, rfl⟩ := owns_slice h.fr
  clear h
  have HF : Hid (∀ (i : Nat) (p : Txt × Value × List Nd), (∀ (j : Nat) (q : Txt × Value × List Nd), j < i → Q[j]? = some q → (q.1 == k) = false) → Q[i]? = some p → (p.1 == k) = true → (getM Q k nilN).1 = p.2.1 ∧ hasM Q k = true) := fun i p h1 h2 h3 => by
    have := find_upto h1 h2 h3
    rw [hasM_find, getM, this]
    exact ⟨rfl, rfl⟩
  have HN : Hid ((∀ (j : Nat) (q : Txt × Value × List Nd), j < Q.length → Q[j]? = some q → (q.1 == k) = false) → (getM Q k nilN).1 = .slice none 0 0 ∧ hasM Q k = false) := fun h1 => by
    have := find_no h1
    rw [hasM_find, getM, this]
    exact ⟨rfl, rfl⟩
  generalize (getM Q k nilN).1 = rv at *
  generalize hasM Q k = rb at *
  go_enter Try.func28, Try.ntmps28
  go_wp2_with fail
  go_loopw [6] (fun v6 wr => ∃ i : Nat, v6 = .int .i64 i ∧ i ≤ Q.length ∧ wr = W ∧ Hid (∀ (j : Nat) (q : Txt × Value × List Nd), j < i → Q[j]? = some q → (q.1 == k) = false)) (fun v6 _ => Q.length - (intOf v6).toNat)
  case atStart => exact ⟨0, rfl, Nat.zero_le _, rfl, fun j q hj => absurd hj (Nat.not_lt_zero _)⟩
  case round =>
    obtain ⟨i, rfl, hi, rfl, HI⟩ := hrel
    by_cases hil : i < Q.length
    · obtain ⟨p, hp⟩ := mem_iff_some hil
      obtain ⟨g, cap, hv, _, d0, d1⟩ := pr_at HR.out hp
      cases hv
      cases hq : (p.1 == k) with
      | true =>
        obtain ⟨rfl, rfl⟩ := HF.out i p HI.out hp hq
        clear hp
        go_wp2_with fail
        go_ret2
        exact ⟨rfl, rfl⟩
      | false =>
        have HI2 : Hid (∀ (j : Nat) (q : Txt × Value × List Nd), j < i + 1 → Q[j]? = some q → (q.1 == k) = false) := fun j q hj hq2 => by
          rcases Nat.lt_or_ge j i with h1 | h1
          · exact HI.out j q h1 hq2
          · rw [show j = i by omega, hp] at hq2
            cases hq2
            exact hq
        clear hp
        go_wp2_with fail
        exact ⟨⟨i + 1, by simp, by omega, trivial, HI2⟩, by simp [intOf]; omega⟩
    · have hie : i = Q.length := by omega
      subst hie
      obtain ⟨rfl, rfl⟩ := HN.out HI.out
      go_wp2_with fail
      go_ret2
      exact ⟨rfl, rfl⟩
end Go.Proofs.Ytikogljojnapaaa
