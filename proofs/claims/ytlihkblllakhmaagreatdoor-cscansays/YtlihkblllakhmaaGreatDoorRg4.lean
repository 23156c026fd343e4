/- The document's scanner: parts of its own; a text behind them. -/
import Derived.Test.YtlihkblllakhmaaGreatDoorSc1
import Derived.Test.YtlihkblllakhmaaGreatDoorRg3
import Derived.Test.YtlihkblllakhmaaGreatDoorPureA
namespace Go.Proofs.YtlihkblllakhmaaGreatDoor
open Go.RowKit
attribute [local go_sem] Oper.semAt_some

theorem flat_get4 (X : List Pt) : ∀ (i : Nat) (q : Pt), X[i]? = some q → ∀ (j : Nat) (u : Value), (ptC q)[j]? = some u → (ptCs X)[i * 4 + j]? = some u := by
  induction X with
  | nil => intro i q h; simp at h
  | cons x X ih =>
    intro i q h j u hu
    rw [show ptCs (x :: X) = ptC x ++ ptCs X from by simp [ptCs]]
    cases i with
    | zero =>
      simp only [List.getElem?_cons_zero, Option.some.injEq] at h
      subst h
      rw [List.getElem?_append_left (by have := (List.getElem?_eq_some_iff.1 hu).1; omega), Nat.zero_mul, Nat.zero_add]
      exact hu
    | succ i =>
      rw [List.getElem?_append_right (by show 4 ≤ _; omega), show (i + 1) * 4 + j - (ptC x).length = i * 4 + j by show _ - 4 = _; omega]
      exact ih i q (by simpa using h) j u hu
theorem QtOwn.get {W : World} {B : Nat} {v : Value} {X : List Pt} (h : QtOwn W B v X) (hne : X ≠ []) : ∃ g cap, v = .slice (some ⟨g, 0, none⟩) X.length cap ∧ B ≤ g ∧ g < W.heap.size ∧ (∀ j, W.frozen? ⟨g, j, none⟩ = false) ∧ ∀ i p, X[i]? = some p → ∀ j u, (ptC p)[j]? = some u → W.cell? ⟨g, i * 4 + j, none⟩ = some u := by
  rcases h.2 with ⟨_, h0⟩ | ⟨g, cap, cur, hv, hb, hc, h1, _, h2, h3⟩
  · exact absurd (List.eq_nil_of_length_eq_zero h0) hne
  · refine ⟨g, cap, hv, hb, (Array.getElem?_eq_some_iff.1 hc).1, fun j => by simp [World.frozen?, hc], fun i q hi j u hu => ?_⟩
    have hf := flat_get4 X i q hi j u hu
    have hlt := (List.getElem?_eq_some_iff.1 hf).1
    rw [ptCs_length] at hlt
    have e1 : W.cell? ⟨g, i * 4 + j, none⟩ = cur[i * 4 + j]? := by simp [World.cell?, hc]
    rw [e1, ← Array.getElem?_toList, ← List.getElem?_take_of_lt hlt, h3]
    exact hf
theorem ptCs_set (X : List Pt) (p : Pt) (t : List UInt8) : (ptCs (X ++ [p])).set (X.length * 4 + 3) (str (p.s ++ t)) = ptCs (X ++ [⟨p.kind, p.pos, p.n, p.s ++ t⟩]) := by
  rw [ptCs_append, ptCs_append, ptCs_one, ptCs_one, List.set_append_right _ _ (by rw [ptCs_length]; omega), ptCs_length, show X.length * 4 + 3 - X.length * 4 = 3 by omega]
  rfl
/-- The last part's text is written anew. -/
theorem QtOwn.put {W : World} {B g cap : Nat} {X : List Pt} {p : Pt} (h : QtOwn W B (.slice (some ⟨g, 0, none⟩) (X.length + 1) cap) (X ++ [p])) (t : List UInt8) (u : Value) (hu : u = str (p.s ++ t)) :
    QtOwn (W.setCell ⟨g, X.length * 4 + 3, none⟩ u) B (.slice (some ⟨g, 0, none⟩) (X.length + 1) cap) (X ++ [⟨p.kind, p.pos, p.n, p.s ++ t⟩]) := by
  subst hu
  rcases h.2 with ⟨h0, _⟩ | ⟨g', cap', cur, hv, hb, hc, h1, h4, h2, h3⟩
  · cases h0
  · have hv' := Value.slice.inj hv
    obtain ⟨e1, _, e3⟩ := hv'
    cases e1
    subst e3
    have hl : (X ++ [p]).length = X.length + 1 := by simp
    have hl2 : (X ++ [(⟨p.kind, p.pos, p.n, p.s ++ t⟩ : Pt)]).length = X.length + 1 := by simp
    have hC : Cel W g 81 cur := hc
    have hC2 := hC.set (j := X.length * 4 + 3) (str (p.s ++ t))
    unfold QtOwn
    refine ⟨by rw [ptCs_length], Or.inr ⟨g, cap, cur.setIfInBounds (X.length * 4 + 3) (str (p.s ++ t)), by rw [hl2], hb, hC2, by rw [hl2]; rw [hl] at h1; exact h1, h4, by rw [Array.size_setIfInBounds]; exact h2, ?_⟩⟩
    rw [hl2, Array.toList_setIfInBounds, List.take_set, ← ptCs_set, ← h3, hl]
theorem ba_ext' {a b : ByteArray} (h : a.data.toList = b.data.toList) : a = b := by
  cases a; cases b
  rw [ByteArray.mk.injEq]
  exact Array.toList_inj.1 h
set_option maxRecDepth 100000 in
set_option maxHeartbeats 2000000 in
theorem dtext_on {W : World} {B : Nat} {v : Value} {X : List Pt} {p : Pt} (h : QtOwn W B v (X ++ [p])) (hk : p.kind = 1) (a : Nat) (t : ByteArray) (hX : X.length < 100000) (hz : p.s.length + t.size < 1000000000) :
    Calls Tryz.prog 53 #[v, .int .i64 (a : Nat), .string t] W fun e w' => e = .returned v ∧ QtOwn w' B v (X ++ [⟨p.kind, p.pos, p.n, p.s ++ t.data.toList⟩]) ∧ Below B W w' := by
  obtain ⟨g, cap, rfl, hB, hlt, hfz, hg⟩ := h.get (by simp)
  have c0 : W.cell? ⟨g, X.length * 4, none⟩ = some (.int .i64 1) := by
    have := hg X.length p (by simp) 0 _ rfl
    rw [hk] at this
    exact this
  obtain ⟨ps, hps⟩ : ∃ ps : ByteArray, ps = ⟨p.s.toArray⟩ := ⟨_, rfl⟩
  have c3 : W.cell? ⟨g, X.length * 4 + 3, none⟩ = some (.string ps) := by rw [hps]; exact hg X.length p (by simp) 3 _ rfl
  have f3 := hfz (X.length * 4 + 3)
  have hpz : ps.size = p.s.length := by rw [hps]; simp [ByteArray.size]
  have hl : (X ++ [p]).length = X.length + 1 := by simp
  rw [hl] at h ⊢
  have HR : Hid (QtOwn W B (.slice (some ⟨g, 0, none⟩) (X.length + 1) cap) (X ++ [p])) := h
  have HU : Hid (Value.string (ps ++ t) = str (p.s ++ t.data.toList)) := by
    unfold Hid
    rw [hps]
    exact congrArg Value.string (ba_ext' (by simp))
  have hm : (X.length : Int) + 1 - 1 = (X.length : Int) := by omega
  have hpos : (0 : Int) < (X.length : Int) + 1 := by omega
  have hlt2 : (X.length : Int) < (X.length : Int) + 1 := by omega
  clear h hg hfz hps hk
  go_enter Tryz.func53, Tryz.ntmps53
  go_wp2_with fail
  go_ret
  exact ⟨rfl, HR.out.put _ _ HU.out, (Below.refl B W).setCell (p := ⟨g, X.length * 4 + 3, none⟩) hB _⟩
set_option maxRecDepth 100000 in
set_option maxHeartbeats 2000000 in
theorem dtext_new {W : World} {B : Nat} {v : Value} {X : List Pt} (h : QtOwn W B v X) (hB : B ≤ W.heap.size) (a : Nat) (t : ByteArray) (hX : X.length < 100000) (hc : X = [] ∨ ∃ Y p, X = Y ++ [p] ∧ p.kind ≠ 1) :
    Calls Tryz.prog 53 #[v, .int .i64 (a : Nat), .string t] W fun e w' => ∃ v', e = .returned v' ∧ QtOwn w' B v' (X ++ [⟨1, a, 0, t.data.toList⟩]) ∧ Below B W w' := by
  obtain ⟨i0, hi, hz0, hz1, hz2⟩ := info_parts infoQt
  have HR : Hid (W.ownsRow B 81 4 v X.length (ptCs X)) := h
  have HST : Hid (∀ v6 w6, w6.ownsRow B 81 4 v6 (X.length + 1) (ptCs X ++ ptC ⟨1, a, 0, t.data.toList⟩) → QtOwn w6 B v6 (X ++ [⟨1, a, 0, t.data.toList⟩])) := fun v6 w6 ho => by
    unfold QtOwn
    rw [ptCs_append, ptCs_one, List.length_append]
    exact ho
  have hfm := h.form
  obtain ⟨ad, cap, rfl⟩ := hfm
  have hcc : X.length = 0 ∨ (∃ g n, X.length = n + 1 ∧ ad = some ⟨g, 0, none⟩ ∧ ∃ k0 : Nat, W.cell? ⟨g, n * 4, none⟩ = some (.int .i64 (k0 : Nat)) ∧ ((k0 : Int) == 1) = false) := by
    rcases hc with rfl | ⟨Y, p, rfl, hk⟩
    · exact Or.inl rfl
    · obtain ⟨g, cap', hv, _, _, _, hg⟩ := h.get (by simp)
      obtain ⟨rfl, _, _⟩ := Value.slice.inj hv
      exact Or.inr ⟨g, Y.length, by simp, rfl, p.kind, hg Y.length p (by simp) 0 _ rfl, beq_eq_false_iff_ne.2 (fun e => hk (by omega))⟩
  clear hc h
  rcases hcc with hn | ⟨g, n, hn, rfl, k0, c0, hk⟩
  · rw [hn] at HR HST ⊢
    go_enter Tryz.func53, Tryz.ntmps53
    go_wp2_with (at_builtin; refine wpList_append_own_at _ rfl _ _ 46 rfl B 81 i0 _ 4 40 Tryz.underlying46 hi hz0 hz1 hz2 rfl (by decide) _ _ _ rfl (World.ownsRow.alloc HR.out _) ⟨W.heap.size, 0, none⟩ 1 1 (ptC (⟨1, a, 0, t.data.toList⟩ : Pt)) rfl rfl (cells_new _ _ _) (by simp [Value.oneCell']) (by have := maxLen_big; omega) (by omega) (by simp; omega) ?_; intro v6 w6 hown hgrow _ _)
    have hbel : Below B W w6 := grown_own (by simp; omega) ((Below.refl B W).alloc hB _) (World.ownsRow.alloc HR.out _) hgrow
    have HO6 : Hid (QtOwn w6 B v6 (X ++ [⟨1, a, 0, t.data.toList⟩])) := HST.out _ _ hown
    have HB6 : Hid (Below B W w6) := hbel
    clear hown hgrow hbel
    go_wp2_with fail
    go_ret
    exact ⟨v6, rfl, HO6.out, HB6.out⟩
  · rw [hn] at HR HST ⊢
    have hm : (n : Int) + 1 - 1 = (n : Int) := by omega
    have hpos : (0 : Int) < (n : Int) + 1 := by omega
    have hlt2 : (n : Int) < (n : Int) + 1 := by omega
    go_enter Tryz.func53, Tryz.ntmps53
    go_wp2_with (at_builtin; refine wpList_append_own_at _ rfl _ _ 46 rfl B 81 i0 _ 4 40 Tryz.underlying46 hi hz0 hz1 hz2 rfl (by decide) _ _ _ rfl (World.ownsRow.alloc HR.out _) ⟨W.heap.size, 0, none⟩ 1 1 (ptC (⟨1, a, 0, t.data.toList⟩ : Pt)) rfl rfl (cells_new _ _ _) (by simp [Value.oneCell']) (by have := maxLen_big; omega) (by omega) (by simp; omega) ?_; intro v6 w6 hown hgrow _ _)
    have hbel : Below B W w6 := grown_own (by simp; omega) ((Below.refl B W).alloc hB _) (World.ownsRow.alloc HR.out _) hgrow
    have HO6 : Hid (QtOwn w6 B v6 (X ++ [⟨1, a, 0, t.data.toList⟩])) := HST.out _ _ hown
    have HB6 : Hid (Below B W w6) := hbel
    clear hown hgrow hbel
    go_wp2_with fail
    go_ret
    exact ⟨v6, rfl, HO6.out, HB6.out⟩
/-- A text part behind others: joinP. -/
theorem dtext_any {W : World} {B : Nat} {v : Value} {X : List Pt} (h : QtOwn W B v X) (hB : B ≤ W.heap.size) (a : Nat) (t : ByteArray) (hX : X.length < 100000) (hXs : ∀ p ∈ X, p.s.length ≤ 100000) (ht : t.size ≤ 100000) :
    Calls Tryz.prog 53 #[v, .int .i64 (a : Nat), .string t] W fun e w' => ∃ v', e = .returned v' ∧ QtOwn w' B v' (joinP X ⟨1, a, 0, t.data.toList⟩) ∧ Below B W w' := by
  rcases List.eq_nil_or_concat X with rfl | ⟨Y, p, rfl⟩
  · exact dtext_new h hB a t (by simp) (Or.inl rfl)
  · rw [List.concat_eq_append] at *
    by_cases hp : p.kind = 1
    · have hp2 := hXs p (by simp)
      have e : joinP (Y ++ [p]) ⟨1, a, 0, t.data.toList⟩ = Y ++ [⟨p.kind, p.pos, p.n, p.s ++ t.data.toList⟩] := by simp [joinP, hp]
      rw [e]
      exact (dtext_on h hp a t (by simp at hX; omega) (by omega)).mono fun e w' hw => ⟨v, hw.1, hw.2.1, hw.2.2⟩
    · rw [joinP_new (.inl (by rw [textE_snoc]; simp [hp]))]
      exact dtext_new h hB a t hX (Or.inr ⟨Y, p, rfl, hp⟩)
end Go.Proofs.YtlihkblllakhmaaGreatDoor
