/- A word's parts, neighbouring texts of one kind as one. -/
import Derived.Test.YtnlbjgioleoihaaGreatDoorBp4
namespace Go.Proofs.YtnlbjgioleoihaaGreatDoor
open Go.RowKit
attribute [local go_sem] Oper.semAt_some

theorem PtOwn.get2 {W : World} {B : Nat} {v : Value} {X : List Pt} (h : PtOwn W B v X) (hne : X ≠ []) : ∃ g cap, v = .slice (some ⟨g, 0, none⟩) X.length cap ∧ B ≤ g ∧ g < W.heap.size ∧ (∀ j, W.frozen? ⟨g, j, none⟩ = false) ∧ ∀ i p, X[i]? = some p → ∀ j u, (ptC p)[j]? = some u → W.cell? ⟨g, i * 5 + j, none⟩ = some u := by
  rcases h.2 with ⟨_, h0⟩ | ⟨g, cap, cur, hv, hb, hc, h1, _, h2, h3⟩
  · exact absurd (List.eq_nil_of_length_eq_zero h0) hne
  · refine ⟨g, cap, hv, hb, (Array.getElem?_eq_some_iff.1 hc).1, fun j => by simp [World.frozen?, hc], fun i q hi j u hu => ?_⟩
    have hf := flat_get5 X i q hi j u hu
    have hlt := (List.getElem?_eq_some_iff.1 hf).1
    rw [ptCs_length] at hlt
    have e1 : W.cell? ⟨g, i * 5 + j, none⟩ = cur[i * 5 + j]? := by simp [World.cell?, hc]
    rw [e1, ← Array.getElem?_toList, ← List.getElem?_take_of_lt hlt, h3]
    exact hf
theorem ptCs_set (X : List Pt) (p : Pt) (t : List UInt8) : (ptCs (X ++ [p])).set (X.length * 5 + 4) (str (p.s ++ t)) = ptCs (X ++ [⟨p.kind, p.pos, p.n, p.quoted, p.s ++ t⟩]) := by
  rw [ptCs_append, ptCs_append, ptCs_one, ptCs_one, List.set_append_right _ _ (by rw [ptCs_length]; omega), ptCs_length, show X.length * 5 + 4 - X.length * 5 = 4 by omega]
  rfl
/-- The last part's text is written anew. -/
theorem PtOwn.put {W : World} {B g cap : Nat} {X : List Pt} {p : Pt} (h : PtOwn W B (.slice (some ⟨g, 0, none⟩) (X.length + 1) cap) (X ++ [p])) (t : List UInt8) (u : Value) (hu : u = str (p.s ++ t)) :
    PtOwn (W.setCell ⟨g, X.length * 5 + 4, none⟩ u) B (.slice (some ⟨g, 0, none⟩) (X.length + 1) cap) (X ++ [⟨p.kind, p.pos, p.n, p.quoted, p.s ++ t⟩]) := by
  subst hu
  rcases h.2 with ⟨h0, _⟩ | ⟨g', cap', cur, hv, hb, hc, h1, h4, h2, h3⟩
  · cases h0
  · have hv' := Value.slice.inj hv
    obtain ⟨e1, _, e3⟩ := hv'
    cases e1
    subst e3
    have hl : (X ++ [p]).length = X.length + 1 := by simp
    have hl2 : (X ++ [(⟨p.kind, p.pos, p.n, p.quoted, p.s ++ t⟩ : Pt)]).length = X.length + 1 := by simp
    have hC : Cel W g 36 cur := hc
    have hC2 := hC.set (j := X.length * 5 + 4) (str (p.s ++ t))
    unfold PtOwn
    refine ⟨by rw [ptCs_length], Or.inr ⟨g, cap, cur.setIfInBounds (X.length * 5 + 4) (str (p.s ++ t)), by rw [hl2], hb, hC2, by rw [hl2]; rw [hl] at h1; exact h1, h4, by rw [Array.size_setIfInBounds]; exact h2, ?_⟩⟩
    rw [hl2, Array.toList_setIfInBounds, List.take_set, ← ptCs_set, ← h3, hl]
theorem ba_ext' {a b : ByteArray} (h : a.data.toList = b.data.toList) : a = b := by
  cases a; cases b
  rw [ByteArray.mk.injEq]
  exact Array.toList_inj.1 h

theorem fStep_strip (out : List Pt) (p : Pt) : (fStep out p).map strip = fStep (out.map strip) (strip p) := by
  unfold fStep
  show List.map strip (if isTx p.kind && p.s.isEmpty then out else _) = if isTx p.kind && p.s.isEmpty then _ else _
  cases isTx p.kind && p.s.isEmpty with
  | true => rfl
  | false =>
    simp only [Bool.false_eq_true, if_false]
    rw [List.getLast?_map]
    cases out.getLast? with
    | none => simp
    | some q =>
      simp only [Option.map_some]
      show List.map strip (if isTx p.kind && q.kind == p.kind then _ else _) = if isTx p.kind && q.kind == p.kind then _ else _
      cases isTx p.kind && q.kind == p.kind with
      | true => simp [strip]
      | false => simp
theorem fold_strip : ∀ (ps out : List Pt), (ps.foldl fStep out).map strip = flatS (out.map strip) ps
  | [], out => rfl
  | p :: ps, out => by
    rw [List.foldl_cons, fold_strip ps (fStep out p), fStep_strip]
    rfl
theorem fStep_sz {out : List Pt} {p : Pt} {M : Nat} (h : ∀ q ∈ out, q.s.length ≤ M) (hp : p.s.length ≤ 100000) : (∀ q ∈ fStep out p, q.s.length ≤ M + 100000) ∧ (fStep out p).length ≤ out.length + 1 := by
  have hn : ∀ q ∈ out ++ [p], q.s.length ≤ M + 100000 := fun q hq => by
    rcases List.mem_append.1 hq with hq | hq
    · have := h q hq; omega
    · rw [List.mem_singleton.1 hq]; omega
  unfold fStep
  split
  · exact ⟨fun q hq => by have := h q hq; omega, by omega⟩
  · split
    · rename_i q hq
      obtain ⟨o, rfl⟩ := List.getLast?_eq_some_iff.1 hq
      split
      · refine ⟨fun r hr => ?_, by simp⟩
        rw [List.dropLast_concat] at hr
        rcases List.mem_append.1 hr with hr | hr
        · have := h r (List.mem_append_left _ hr); omega
        · have := h q (List.mem_append_right _ List.mem_cons_self)
          rw [List.mem_singleton.1 hr]
          simp only [List.length_append]
          omega
      · exact ⟨hn, by simp⟩
    · exact ⟨hn, by simp⟩
theorem fold_sz : ∀ (ps out : List Pt) (M : Nat), (∀ q ∈ out, q.s.length ≤ M) → (∀ p ∈ ps, p.s.length ≤ 100000) → (∀ q ∈ ps.foldl fStep out, q.s.length ≤ M + 100000 * ps.length) ∧ (ps.foldl fStep out).length ≤ out.length + ps.length
  | [], out, M, h, _ => ⟨fun q hq => by have := h q hq; simp; omega, by simp⟩
  | p :: ps, out, M, h, hp => by
    obtain ⟨h1, h2⟩ := fStep_sz h (hp p List.mem_cons_self)
    obtain ⟨h3, h4⟩ := fold_sz ps (fStep out p) (M + 100000) h1 (fun q hq => hp q (List.mem_cons_of_mem _ hq))
    rw [List.foldl_cons]
    refine ⟨fun q hq => ?_, by rw [List.length_cons]; omega⟩
    have := h3 q hq
    rw [List.length_cons]
    omega

/-- One more part: nothing, or with the last one's text, or behind it. -/
theorem fStep_cases (out : List Pt) (p : Pt) : (isTx p.kind = true ∧ p.s = [] ∧ fStep out p = out) ∨ (isTx p.kind = true ∧ p.s ≠ [] ∧ ∃ Y q, out = Y ++ [q] ∧ q.kind = p.kind ∧ fStep out p = Y ++ [⟨q.kind, q.pos, q.n, q.quoted, q.s ++ p.s⟩]) ∨ (fStep out p = out ++ [p] ∧ (isTx p.kind = false ∨ (isTx p.kind = true ∧ p.s ≠ [] ∧ (out = [] ∨ ∃ Y q, out = Y ++ [q] ∧ q.kind ≠ p.kind)))) := by
  cases hk : isTx p.kind with
  | false => exact .inr (.inr ⟨by unfold fStep; rw [hk]; cases out.getLast? <;> simp, .inl rfl⟩)
  | true =>
    by_cases hs : p.s = []
    · exact .inl ⟨rfl, hs, by unfold fStep; rw [hk, hs]; rfl⟩
    · have he : p.s.isEmpty = false := by cases hx : p.s with
        | nil => exact absurd hx hs
        | cons c t => rfl
      cases ho : out.getLast? with
      | none =>
        have : out = [] := by simpa using ho
        exact .inr (.inr ⟨by unfold fStep; rw [hk, he, ho]; rfl, .inr ⟨rfl, hs, .inl this⟩⟩)
      | some q =>
        obtain ⟨Y, rfl⟩ := List.getLast?_eq_some_iff.1 ho
        by_cases hq : q.kind = p.kind
        · refine .inr (.inl ⟨rfl, hs, Y, q, rfl, hq, ?_⟩)
          unfold fStep
          rw [hk, he, ho]
          simp [hq]
        · refine .inr (.inr ⟨?_, .inr ⟨rfl, hs, .inr ⟨Y, q, rfl, hq⟩⟩⟩)
          unfold fStep
          rw [hk, he, ho]
          simp [hq]
end Go.Proofs.YtnlbjgioleoihaaGreatDoor
