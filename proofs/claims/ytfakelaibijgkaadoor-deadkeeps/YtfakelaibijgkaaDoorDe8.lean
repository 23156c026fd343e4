/- A program passed. -/
import Derived.Test.YtfakelaibijgkaaDoorDe7
import Derived.Test.YtfakelaibijgkaaDoorPassQ
namespace Go.Proofs.YtfakelaibijgkaaDoor
open Go.RowKit
attribute [local go_sem] Oper.semAt_some

theorem put_any {d B : Nat} {v : Value} {K : List (Value × List Nd)} {x : Nd} {W : World} (h : KdOwn W B v K) (hB : B ≤ W.heap.size) (hd : d ≤ 30) (hF : ∀ (j : Nat) (Y : List Nd), (K.map Prod.snd)[j]? = some Y → Fits d (wordAtB x.kind (K.map Prod.snd).length j) Y) (hc : cntB x.kind (K.map Prod.snd).length = true) (hl : (kidL K).length ≤ 3000) :
    Calls Tryd.prog 33 #[ndV x, v] W fun e w' => ∃ v', e = .returned v' ∧ (NdOwn w' B v' (putD x.kind x.n x.s (K.map Prod.snd)) ∧ Below W.heap.size W w') := by
  have hb1 := below_new W (.cells #[.int .i64 x.kind, .int .i64 x.n, .int .i64 x.k, .int .i64 x.size, str x.s] 26)
  have hk1 : KdOwn (W.alloc (.cells #[.int .i64 x.kind, .int .i64 x.n, .int .i64 x.k, .int .i64 x.size, str x.s] 26)) B v K := h.below hb1
  have hB1 := Nat.le_trans hB hb1.size
  have hex : ∀ q ∈ K, ∃ d word, Fits d word q.2 := fun q hq => by
    obtain ⟨j, hj⟩ := List.mem_iff_getElem?.1 hq
    exact ⟨d, _, hF j q.2 (by rw [List.getElem?_map, hj]; rfl)⟩
  have hKl : K.length ≤ 3000 := by
    have h1 := flat_ge (K.map Prod.snd) (fun Y hY => by
      obtain ⟨q, hq, rfl⟩ := List.mem_map.1 hY
      obtain ⟨_, _, hf⟩ := hex q hq
      exact hf.pos)
    rw [List.length_map] at h1
    unfold kidL at hl
    omega
  unfold putD
  by_cases e1 : x.kind = 23
  · rw [if_pos e1]
    have hFf : ∀ q ∈ K, Fits d false q.2 := fun q hq => by
      obtain ⟨j, hj⟩ := List.mem_iff_getElem?.1 hq
      have := hF j q.2 (by rw [List.getElem?_map, hj]; rfl)
      rw [e1, seq_word] at this
      exact this
    refine put_seq e1 ((dseq_any hk1 hB1 hFf hl (by rintro rfl; rw [e1] at hc; exact absurd hc (by simp [cntB]))).mono ?_)
    rintro e w' ⟨v', rfl, h1, h2⟩
    exact ⟨v', rfl, owns_lower h1 hB1, hb1.trans (h2.mono hb1.size)⟩
  rw [if_neg e1]
  by_cases e2 : x.kind = 24 ∨ x.kind = 25 ∨ x.kind = 26
  · rw [if_pos e2]
    have hFf : ∀ q ∈ K, Fits d false q.2 := fun q hq => by
      obtain ⟨j, hj⟩ := List.mem_iff_getElem?.1 hq
      have := hF j q.2 (by rw [List.getElem?_map, hj]; rfl)
      rw [show wordAtB x.kind (K.map Prod.snd).length j = false by rcases e2 with e | e | e <;> rw [e] <;> simp [if_word, and_word, or_word]] at this
      exact this
    refine put_cho e2 ((choice_any 30 d d B v K x _ hk1 hB1 e2 (by rw [List.length_map] at hc; exact hc) hFf (fun q hq => hFf q (List.mem_of_getElem? hq)) hd hl).mono ?_)
    rintro e w' ⟨v', rfl, h1, h2⟩
    exact ⟨v', rfl, h1, hb1.trans (h2.mono hb1.size)⟩
  rw [if_neg e2]
  by_cases e3 : x.kind = 27
  · rw [if_pos e3]
    match K, hc, hF, h, hl with
    | [], hc, _, _, _ => rw [e3] at hc; exact absurd hc (by simp [cntB])
    | _ :: _ :: _, hc, _, _, _ => rw [e3] at hc; exact absurd hc (by unfold cntB; simp; omega)
    | [q], _, hF, h, hl =>
      obtain ⟨g, o, cap, rfl, hg, c0, _⟩ := h.at.at (j := 0) (p := q) rfl
      have hfq := hF 0 q.2 rfl
      rw [e3, not_word] at hfq
      have hq := h.2 q (by simp)
      have hlq : q.2.length ≤ 3000 := by simp [kidL] at hl; omega
      refine put_not e3 c0 hg (by simp) (fun w hb => ?_)
      refine (not_any (hq.below hb) (Nat.le_trans hB hb.size) hfq hlq e3).mono ?_
      rintro e w' ⟨v', rfl, h1, h2⟩
      exact ⟨v', rfl, ⟨h1, hb.trans (h2.mono hb.size)⟩, h2⟩
  rw [if_neg e3]
  by_cases e4 : x.kind = 34 ∨ x.kind = 35 ∨ x.kind = 30
  · rw [if_pos e4]
    refine put_word e4 ((worded_any hk1 hB1 hex hl (by rintro rfl; rcases e4 with e | e | e <;> rw [e] at hc <;> exact absurd hc (by simp [cntB]))).mono ?_)
    rintro e w' ⟨v', rfl, h1, h2⟩
    exact ⟨v', rfl, h1, hb1.trans (h2.mono hb1.size)⟩
  · rw [if_neg e4]
    refine put_new (by
      rintro (e | e | e | e | e | e | e | e)
      · exact e1 e
      · exact e2 (Or.inl e)
      · exact e2 (Or.inr (Or.inl e))
      · exact e2 (Or.inr (Or.inr e))
      · exact e3 e
      · exact e4 (Or.inl e)
      · exact e4 (Or.inr (Or.inl e))
      · exact e4 (Or.inr (Or.inr e))) ((new_own x.kind x.n x.s v K _ hk1.at (by omega) (by omega)).mono ?_)
    rintro e w' ⟨v', rfl, h1, h2⟩
    exact ⟨v', rfl, owns_lower h1 hB1, hb1.trans (h2.mono hb1.size)⟩
/-- One of the lists is another now. -/
theorem KdOwn.put {W : World} {B g n cap : Nat} {zv : Value} {Z : List Nd} {K : List (Value × List Nd)} (h : KdOwn W B (.slice (some ⟨g, 0, none⟩) n cap) K) (i : Nat) (hz : NdOwn W B zv Z) :
    KdOwn (W.setCell ⟨g, i, none⟩ zv) B (.slice (some ⟨g, 0, none⟩) n cap) (K.set i (zv, Z)) := by
  have hT : Turn (fun b => b = g) W (W.setCell ⟨g, i, none⟩ zv) := Turn.setCell (S := fun b => b = g) (p := ⟨g, i, none⟩) (Turn.refl _ _) (fun _ => rfl) _
  refine ⟨?_, fun p hp => ?_⟩
  · rcases h.1.2 with ⟨h0, _⟩ | ⟨g', cap', cur, hv, hb, hc, h1, h4, h2, h3⟩
    · cases h0
    · have hv' := Value.slice.inj hv
      obtain ⟨e1, e2, e3⟩ := hv'
      cases e1
      subst e3
      have hC : Cel W g 22 cur := hc
      have hC2 := hC.set (j := i) zv
      refine ⟨by simp, Or.inr ⟨g, cap, cur.setIfInBounds i zv, by rw [List.length_set, e2], hb, hC2, by rw [List.length_set]; exact h1, h4, by rw [Array.size_setIfInBounds]; exact h2, ?_⟩⟩
      rw [List.length_set, Array.toList_setIfInBounds, List.take_set, List.map_set, ← h3]
  · have hap : ∀ b, (Value.slice (some ⟨g, 0, none⟩) n cap).ownBlock = some b → b = g := fun b hb => by
      simp [Value.ownBlock] at hb
      exact hb.symm
    have hne : ∀ {pv : Value} {X : List Nd}, NdOwn W B pv X → NdOwn (W.setCell ⟨g, i, none⟩ zv) B pv X := fun hp => owns_turn hp hT (fun b hb e => by
      subst e
      exact owns_apart2 h.1 hp (by decide) b rfl hb)
    rcases List.mem_or_eq_of_mem_set hp with hp | rfl
    · exact hne (h.2 p hp)
    · exact hne hz
end Go.Proofs.YtfakelaibijgkaaDoor
