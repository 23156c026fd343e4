/- The document's store is told: Unset. -/
import Derived.Test.YtikogljojnapaaaRef
namespace Go.Proofs.Ytikogljojnapaaa
open Go.RowKit

variable {W W' : World} {K K' S : Nat → Prop} {xb : Nat} {vv av fv : Value} {P : Vrs} {A : List Txt} {Q : Fns}
theorem cel3_set0 (a b c x : Value) : (#[a, b, c] : Array Value).setIfInBounds 0 x = #[x, b, c] := rfl
theorem cel3_set1 (a b c x : Value) : (#[a, b, c] : Array Value).setIfInBounds 1 x = #[a, x, c] := rfl
theorem cel3_set2 (a b c x : Value) : (#[a, b, c] : Array Value).setIfInBounds 2 x = #[a, b, x] := rfl
/-- A row is no such block. -/
theorem row_set {W : World} {xb t j : Nat} {cs : Array Value} (hc : Cel W xb t cs) {B e k n : Nat} {v : Value} {xs : List Value} (ho : W.ownsRow B e k v n xs) (hne : t ≠ e) (u : Value) : (W.setCell ⟨xb, j, none⟩ u).ownsRow B e k v n xs :=
  owns_turn (S := fun i => i = xb) ho ((Turn.refl (fun i => i = xb) W).setCell (p := ⟨xb, j, none⟩) (fun _ => rfl) u) (fun b hb e => owns_apart hc ho hne (by rw [hb, e]))
theorem turn_set (W : World) (xb j : Nat) (u : Value) : Turn (fun i => i = xb) W (W.setCell ⟨xb, j, none⟩ u) := (Turn.refl (fun i => i = xb) W).setCell (p := ⟨xb, j, none⟩) (fun _ => rfl) u
theorem size_set (W : World) (xb j : Nat) (u : Value) : (W.setCell ⟨xb, j, none⟩ u).heap.size = W.heap.size := by simp [World.setCell]
theorem Rs.setV (h : Rs W K xb vv av fv P A Q) {vv' : Value} {P' : Vrs} (hK : ∀ i, K i → K' i) (hlt : ∀ i, K' i → i < W.heap.size) (hr : W.ownsRow 0 34 2 vv' P'.length (prCs P')) (hrk : ∀ b, vv'.ownBlock = some b → K' b) (ht : ∀ p ∈ P', Ot W K' p.2.1 p.2.2) :
    Rs (W.setCell ⟨xb, 0, none⟩ vv') K' xb vv' av fv P' A Q :=
  ⟨h.xc.set vv', row_set h.xc hr (by decide) _, row_set h.xc h.fr (by decide) _, ⟨row_set h.xc h.ar.1 (by decide) _, fun b hb => hK b (h.ar.2 b hb)⟩, fun p hp => ⟨row_set h.xc (ht p hp).1 (by decide) _, (ht p hp).2⟩,
    fun p hp => ⟨row_set h.xc (h.ft p hp).1 (by decide) _, fun b hb => hK b ((h.ft p hp).2 b hb)⟩, hK _ h.Kx, hrk, fun b hb => hK b (h.Kf b hb), fun i hi => by rw [size_set]; exact hlt i hi⟩
theorem Rs.setA (h : Rs W K xb vv av fv P A Q) {av' : Value} {A' : List Txt} (hK : ∀ i, K i → K' i) (hlt : ∀ i, K' i → i < W.heap.size) (ht : Ot W K' av' A') :
    Rs (W.setCell ⟨xb, 1, none⟩ av') K' xb vv av' fv P A' Q :=
  ⟨h.xc.set av', row_set h.xc h.vr (by decide) _, row_set h.xc h.fr (by decide) _, ⟨row_set h.xc ht.1 (by decide) _, ht.2⟩, fun p hp => ⟨row_set h.xc (h.vt p hp).1 (by decide) _, fun b hb => hK b ((h.vt p hp).2 b hb)⟩,
    fun p hp => ⟨row_set h.xc (h.ft p hp).1 (by decide) _, fun b hb => hK b ((h.ft p hp).2 b hb)⟩, hK _ h.Kx, fun b hb => hK b (h.Kv b hb), fun b hb => hK b (h.Kf b hb), fun i hi => by rw [size_set]; exact hlt i hi⟩
theorem Rs.setF (h : Rs W K xb vv av fv P A Q) {fv' : Value} {Q' : Fns} (hK : ∀ i, K i → K' i) (hlt : ∀ i, K' i → i < W.heap.size) (hr : W.ownsRow 0 74 2 fv' Q'.length (prCs Q')) (hrk : ∀ b, fv'.ownBlock = some b → K' b) (ht : ∀ p ∈ Q', On W K' p.2.1 p.2.2) :
    Rs (W.setCell ⟨xb, 2, none⟩ fv') K' xb vv av fv' P A Q' :=
  ⟨h.xc.set fv', row_set h.xc h.vr (by decide) _, row_set h.xc hr (by decide) _, ⟨row_set h.xc h.ar.1 (by decide) _, fun b hb => hK b (h.ar.2 b hb)⟩, fun p hp => ⟨row_set h.xc (h.vt p hp).1 (by decide) _, fun b hb => hK b ((h.vt p hp).2 b hb)⟩,
    fun p hp => ⟨row_set h.xc (ht p hp).1 (by decide) _, (ht p hp).2⟩, hK _ h.Kx, fun b hb => hK b (h.Kv b hb), hrk, fun i hi => by rw [size_set]; exact hlt i hi⟩
/-- Behind a step: the store's own block may have turned, and new blocks may be its. -/
def Stx (xb : Nat) (W : World) (K : Nat → Prop) (W' : World) (K' : Nat → Prop) : Prop := Turn (fun i => i = xb) W W' ∧ (∀ i, K' i → K i ∨ W.heap.size ≤ i) ∧ ∀ i, K i → K' i
theorem Stx.trans {W1 W2 : World} {K1 K2 : Nat → Prop} (h : Stx xb W K W1 K1) (k : Stx xb W1 K1 W2 K2) : Stx xb W K W2 K2 :=
  ⟨h.1.trans k.1 (fun _ hi _ => hi), fun i hi => (k.2.1 i hi).elim (fun h1 => h.2.1 i h1) (fun h1 => .inr (Nat.le_trans h.1.size h1)), fun i hi => k.2.2 i (h.2.2 i hi)⟩
def unsR (P : Vrs) (k : Txt) : Vrs := if k = star then P else delM P k
def unsA (A : List Txt) (k : Txt) : List Txt := if k = star then [] else A
/-- New blocks beside. -/
def Kn (W W' : World) (K : Nat → Prop) : Nat → Prop := fun i => K i ∨ W.heap.size ≤ i ∧ i < W'.heap.size
theorem Kn.lt {W W' : World} {K : Nat → Prop} (h : ∀ i, K i → i < W.heap.size) (hz : W.heap.size ≤ W'.heap.size) : ∀ i, Kn W W' K i → i < W'.heap.size := fun i hi => hi.elim (fun h1 => Nat.lt_of_lt_of_le (h i h1) hz) (fun h1 => h1.2)
theorem delM_take_yes {α : Type} {P : List (Txt × α)} {k : Txt} {i : Nat} {p : Txt × α} (hp : P[i]? = some p) (h : (p.1 == k) = false) : delM (P.take (i + 1)) k = delM (P.take i) k ++ [p] := by
  rw [List.take_add_one, hp]
  simp [delM, h]
theorem delM_take_no {α : Type} {P : List (Txt × α)} {k : Txt} {i : Nat} {p : Txt × α} (hp : P[i]? = some p) (h : (p.1 == k) = true) : delM (P.take (i + 1)) k = delM (P.take i) k := by
  rw [List.take_add_one, hp]
  simp [delM, h]
set_option maxRecDepth 100000 in
set_option maxHeartbeats 2000000 in
theorem runset_any (h : Rs W K xb vv av fv P A Q) (k : Txt) (hP : P.length < 65536) :
    Calls Try.prog 26 #[xP xb, str k] W fun e w' => e = .returned (.tuple #[]) ∧ ∃ vv' av' K', Rs w' K' xb vv' av' fv (unsR P k) (unsA A k) Q ∧ Stx xb W K w' K' := by
  obtain ⟨i0, hi0, hz0, hz1, hz2⟩ := info_parts info34
  have HH : Hid (∀ W', Below W.heap.size W W' → Rs W' K xb vv av fv P A Q) := fun W' hb => h.below hb
  have c0 : W.cell? ⟨xb, 0, none⟩ = some vv := h.xc.cell 0
  have c1 : W.cell? ⟨xb, 1, none⟩ = some av := h.xc.cell 1
  have f1 : W.frozen? ⟨xb, 1, none⟩ = false := h.xc.frozen 1
  have hlt := h.lt
  obtain ⟨adv, capv, rfl⟩ := owns_slice h.vr
  clear h
  by_cases hs : k = star
  · subst hs
    have e1 : unsR P star = P := if_pos rfl
    have e2 : unsA A star = [] := if_pos rfl
    rw [e1, e2]
    clear e1 e2
    go_enter Try.func26, Try.ntmps26
    go_wp2_with fail
    refine bodyPost_ret (results_none rfl _ _ _) rfl ?_
    exact ⟨rfl, _, _, K, (HH.out W (Below.refl _ _)).setA (fun _ h => h) hlt ⟨World.ownsRow_nil _ _ _ _, fun b hb => by simp [Value.ownBlock] at hb⟩, turn_set _ _ _ _, fun i hi => .inl hi, fun _ h => h⟩
  · have hb : (k == [42]) = false := by simpa using hs
    have e1 : unsR P k = delM P k := if_neg hs
    have e2 : unsA A k = A := if_neg hs
    rw [e1, e2]
    clear e1 e2 hs c1 f1
    go_enter Try.func26, Try.ntmps26
    go_wp2_with fail
    go_loopw [4, 5] (fun v4 v5 wr => ∃ i : Nat, v5 = .int .i64 i ∧ i ≤ P.length ∧ Hid (wr.ownsRow W.heap.size 34 2 v4 (delM (P.take i) k).length (prCs (delM (P.take i) k))) ∧ Below W.heap.size W wr) (fun _ v5 _ => P.length - (intOf v5).toNat)
    case atStart => exact ⟨0, rfl, Nat.zero_le _, World.ownsRow_nil _ _ _ _, Below.refl _ _⟩
    case round =>
      obtain ⟨i, rfl, hi, HO, hbr⟩ := hrel
      have hzr := hbr.size
      have d0 : wr.cell? ⟨xb, 0, none⟩ = some (.slice adv P.length capv) := (HH.out _ hbr).xc.cell 0
      by_cases hil : i < P.length
      · obtain ⟨p, hp⟩ := mem_iff_some hil
        obtain ⟨g, cap, hv, _, d1, d2⟩ := pr_at (HH.out _ hbr).vr hp
        cases hv
        cases hq : (p.1 == k) with
        | true =>
          have HE := delM_take_no hp hq
          clear hp
          go_wp2_with fail
          refine ⟨⟨i + 1, by simp, by omega, ?_, hbr⟩, by simp [intOf]; omega⟩
          unfold Hid
          rw [HE]
          exact HO.out
        | false =>
          have HE : Hid (delM (P.take (i + 1)) k = delM (P.take i) k ++ [p]) := delM_take_yes hp hq
          obtain ⟨adp, capp, hvp⟩ := ((HH.out _ hbr).vt p (List.mem_of_getElem? hp)).tx.form
          have HVP : Hid (p.2.1 = .slice adp p.2.2.length capp) := hvp
          rw [hvp] at d2
          have hol : (delM (P.take i) k).length ≤ i := Nat.le_trans (length_delM _ _) (by rw [List.length_take]; omega)
          clear hp hvp
          generalize delM (P.take i) k = O at HO HE hol
          obtain ⟨ado, capo, rfl⟩ := owns_slice HO.out
          have hoA : (wr.alloc (.cells #[str p.1, .slice adp p.2.2.length capp] 34)).ownsRow W.heap.size 34 2 (.slice ado O.length capo) O.length (prCs O) := HO.out.alloc _
          have hbA := hbr.alloc hbr.size (.cells #[str p.1, .slice adp p.2.2.length capp] 34)
          go_wp2_with (at_builtin; refine wpList_append_own_at _ rfl _ _ 22 rfl W.heap.size 34 i0 _ 2 40 Try.underlying22 hi0 hz0 hz1 hz2 rfl (by decide) _ _ _ rfl hoA ⟨wr.heap.size, 0, none⟩ 1 1 [str p.1, .slice adp p.2.2.length capp] rfl rfl (cells_new wr _ 34) (vaC_one _ _ _) (by have := maxLen_big; omega) (by omega) hbA.size ?_; intro v2 w4 hown2 hgrow2 _ _)
          refine ⟨⟨i + 1, by simp, by omega, ?_, grown_own hbA.size hbA hoA hgrow2⟩, by simp [intOf]; omega⟩
          unfold Hid
          rw [HE.out, prCs_snoc, List.length_append, HVP.out]
          exact hown2
      · have hie : i = P.length := by omega
        subst hie
        rw [List.take_length] at HO
        have hR := HH.out _ hbr
        have f0 : wr.frozen? ⟨xb, 0, none⟩ = false := hR.xc.frozen 0
        obtain ⟨ado, capo, rfl⟩ := owns_slice HO.out
        have HF : Hid (Rs (wr.setCell ⟨xb, 0, none⟩ (.slice ado (delM P k).length capo)) (Kn W wr K) xb (.slice ado (delM P k).length capo) av fv (delM P k) A Q) :=
          hR.setV (fun _ h => .inl h) (Kn.lt hlt hbr.size) (owns_lower HO.out (Nat.zero_le _)) (fun b hb => .inr ⟨(HO.out.lt b hb).1, (HO.out.lt b hb).2⟩) (fun p hp => (hR.vt p (mem_delM hp)).mono (fun _ h => .inl h))
        clear hR
        go_wp2_with fail
        go_end0
        exact ⟨rfl, _, _, _, HF.out, (Turn.ofBelow hbr).trans (turn_set _ _ _ _) (fun _ hi _ => hi), fun i hi => hi.imp id (fun h => h.1), fun _ h => .inl h⟩
end Go.Proofs.Ytikogljojnapaaa
