/- The document's own lexer: parts in memory; text. -/
import Derived.Test.YtlbdecohmjpgaaaDoorRf5
import Derived.Test.YtlbdecohmjpgaaaDoorFirst
namespace Go.Proofs.YtlbdecohmjpgaaaDoor
open Go.RowKit
attribute [local go_sem] Oper.semAt_some

/-- The document's parts, of one's own. -/
def RPt (W : World) (B : Nat) (v : Value) (X : List Pt) : Prop := W.ownsRow B 72 5 v X.length (ptCs X)
theorem RPt.nil (W : World) (B : Nat) : RPt W B (.slice none 0 0) [] := World.ownsRow_nil W B _ _
theorem RPt.turn {W W' : World} {B : Nat} {v : Value} {X : List Pt} {S : Nat → Prop} (h : RPt W B v X) (hT : Turn S W W') (hS : ∀ i, S i → i < B) : RPt W' B v X := by
  refine owns_turn h hT fun g hg hs => ?_
  have := (World.ownsRow.lt h g hg).1
  have := hS g hs
  omega
theorem RPt.below {W W' : World} {B : Nat} {v : Value} {X : List Pt} (h : RPt W B v X) (hb : Below W.heap.size W W') : RPt W' B v X := h.turn (Turn.ofBelow (S := fun _ => False) hb) (fun _ e => e.elim)
theorem RPt.lower {W : World} {B B' : Nat} {v : Value} {X : List Pt} (h : RPt W B v X) (hB : B' ≤ B) : RPt W B' v X := owns_lower h hB
theorem RPt.form {W : World} {B : Nat} {v : Value} {X : List Pt} (h : RPt W B v X) : ∃ ad cap, v = .slice ad X.length cap := owns_slice h
theorem RPt.get {W : World} {B : Nat} {v : Value} {X : List Pt} (h : RPt W B v X) (hne : X ≠ []) : ∃ g cap, v = .slice (some ⟨g, 0, none⟩) X.length cap ∧ B ≤ g ∧ g < W.heap.size ∧ (∀ j, W.frozen? ⟨g, j, none⟩ = false) ∧ ∀ i p, X[i]? = some p → ∀ j u, (ptC p)[j]? = some u → W.cell? ⟨g, i * 5 + j, none⟩ = some u := by
  rcases h.2 with ⟨_, h0⟩ | ⟨g, cap, cur, hv, hb, hc, h1, _, h2, h3⟩
  · exact absurd (List.eq_nil_of_length_eq_zero h0) hne
  · refine ⟨g, cap, hv, hb, (Array.getElem?_eq_some_iff.1 hc).1, fun j => by simp [World.frozen?, hc], fun i q hi j u hu => ?_⟩
    have hf := flat_get5 X i q hi j u hu
    have hlt := (List.getElem?_eq_some_iff.1 hf).1
    rw [ptCs_length] at hlt
    have e1 : W.cell? ⟨g, i * 5 + j, none⟩ = cur[i * 5 + j]? := by simp [World.cell?, hc]
    rw [e1, ← Array.getElem?_toList, ← List.getElem?_take_of_lt hlt, h3]
    exact hf
theorem ptCs_set (X : List Pt) (p : Pt) (t : List UInt8) : (ptCs (X ++ [p])).set (X.length * 5 + 4) (str (p.s ++ t)) = ptCs (X ++ [⟨p.kind, p.pos, p.n, p.quoted, p.s ++ t⟩]) := by
  rw [ptCs_append, ptCs_append, ptCs_one, ptCs_one, List.set_append_right _ _ (by rw [ptCs_length]; omega), ptCs_length, show X.length * 5 + 4 - X.length * 5 = 4 by omega]
  rfl
/-- The last part's text is written anew. -/
theorem RPt.put {W : World} {B g cap : Nat} {X : List Pt} {p : Pt} (h : RPt W B (.slice (some ⟨g, 0, none⟩) (X.length + 1) cap) (X ++ [p])) (t : List UInt8) (u : Value) (hu : u = str (p.s ++ t)) :
    RPt (W.setCell ⟨g, X.length * 5 + 4, none⟩ u) B (.slice (some ⟨g, 0, none⟩) (X.length + 1) cap) (X ++ [⟨p.kind, p.pos, p.n, p.quoted, p.s ++ t⟩]) := by
  subst hu
  rcases h.2 with ⟨h0, _⟩ | ⟨g', cap', cur, hv, hb, hc, h1, h4, h2, h3⟩
  · cases h0
  · have hv' := Value.slice.inj hv
    obtain ⟨e1, _, e3⟩ := hv'
    cases e1
    subst e3
    have hl : (X ++ [p]).length = X.length + 1 := by simp
    have hl2 : (X ++ [(⟨p.kind, p.pos, p.n, p.quoted, p.s ++ t⟩ : Pt)]).length = X.length + 1 := by simp
    have hC : Cel W g 72 cur := hc
    have hC2 := hC.set (j := X.length * 5 + 4) (str (p.s ++ t))
    unfold RPt
    refine ⟨by rw [ptCs_length], Or.inr ⟨g, cap, cur.setIfInBounds (X.length * 5 + 4) (str (p.s ++ t)), by rw [hl2], hb, hC2, by rw [hl2]; rw [hl] at h1; exact h1, h4, by rw [Array.size_setIfInBounds]; exact h2, ?_⟩⟩
    rw [hl2, Array.toList_setIfInBounds, List.take_set, ← ptCs_set, ← h3, hl]
theorem ba_ext' {a b : ByteArray} (h : a.data.toList = b.data.toList) : a = b := by
  cases a; cases b
  rw [ByteArray.mk.injEq]
  exact Array.toList_inj.1 h
theorem infoR : (Tryd.prog.info? 72).map (fun i => (i.zero, i.size, i.bytes)) = some (some (.agg zC), 5, 48) := by kernel_rfl
set_option maxRecDepth 100000 in
set_option maxHeartbeats 2000000 in
theorem text_on {W : World} {B : Nat} {v : Value} {X : List Pt} {p : Pt} (h : RPt W B v (X ++ [p])) (a : Nat) (t : ByteArray) (hX : X.length < 100000) (hz : p.s.length + t.size < 1000000000) :
    Calls Tryd.prog 39 #[v, .int .i64 (p.kind : Nat), .int .i64 (a : Nat), .string t, .bool true] W fun e w' => e = .returned v ∧ RPt w' B v (X ++ [⟨p.kind, p.pos, p.n, p.quoted, p.s ++ t.data.toList⟩]) ∧ Below B W w' := by
  obtain ⟨g, cap, rfl, hB, hlt, hfz, hg⟩ := h.get (by simp)
  have c0 : W.cell? ⟨g, X.length * 5, none⟩ = some (.int .i64 (p.kind : Nat)) := hg X.length p (by simp) 0 _ rfl
  obtain ⟨ps, hps⟩ : ∃ ps : ByteArray, ps = ⟨p.s.toArray⟩ := ⟨_, rfl⟩
  have c4 : W.cell? ⟨g, X.length * 5 + 4, none⟩ = some (.string ps) := by rw [hps]; exact hg X.length p (by simp) 4 _ rfl
  have f4 := hfz (X.length * 5 + 4)
  have hpz : ps.size = p.s.length := by rw [hps]; simp [ByteArray.size]
  have hl : (X ++ [p]).length = X.length + 1 := by simp
  rw [hl] at h ⊢
  have HR : Hid (RPt W B (.slice (some ⟨g, 0, none⟩) (X.length + 1) cap) (X ++ [p])) := h
  have HU : Hid (Value.string (ps ++ t) = str (p.s ++ t.data.toList)) := by
    unfold Hid
    rw [hps]
    exact congrArg Value.string (ba_ext' (by simp))
  have hm : (X.length : Int) + 1 - 1 = (X.length : Int) := by omega
  have hpos : (0 : Int) < (X.length : Int) + 1 := by omega
  have hlt2 : (X.length : Int) < (X.length : Int) + 1 := by omega
  clear h hg hfz hps
  go_enter Tryd.func39, Tryd.ntmps39
  go_wp2_with fail
  go_ret
  exact ⟨rfl, HR.out.put _ _ HU.out, (Below.refl B W).setCell (p := ⟨g, X.length * 5 + 4, none⟩) hB _⟩
set_option maxRecDepth 100000 in
set_option maxHeartbeats 2000000 in
theorem text_new {W : World} {B : Nat} {v : Value} {X : List Pt} (h : RPt W B v X) (hB : B ≤ W.heap.size) (kd a : Nat) (t : ByteArray) (on : Bool) (hX : X.length < 100000) (hc : on = false ∨ X = [] ∨ ∃ Y p, X = Y ++ [p] ∧ p.kind ≠ kd) :
    Calls Tryd.prog 39 #[v, .int .i64 (kd : Nat), .int .i64 (a : Nat), .string t, .bool on] W fun e w' => ∃ v', e = .returned v' ∧ RPt w' B v' (X ++ [⟨kd, a, 0, false, t.data.toList⟩]) ∧ Below B W w' := by
  obtain ⟨i0, hi, hz0, hz1, hz2⟩ := info_parts infoR
  have HR : Hid (W.ownsRow B 72 5 v X.length (ptCs X)) := h
  have HST : Hid (∀ v6 w6, w6.ownsRow B 72 5 v6 (X.length + 1) (ptCs X ++ ptC ⟨kd, a, 0, false, t.data.toList⟩) → RPt w6 B v6 (X ++ [⟨kd, a, 0, false, t.data.toList⟩])) := fun v6 w6 ho => by
    unfold RPt
    rw [ptCs_append, ptCs_one, List.length_append]
    exact ho
  have hstr : Value.string t = str t.data.toList := by cases t; rfl
  have HSTR : Hid (Value.string t = str t.data.toList) := hstr
  have hfm := h.form
  obtain ⟨ad, cap, rfl⟩ := hfm
  have hcc : on = false ∨ (on = true ∧ X.length = 0) ∨ (on = true ∧ ∃ g n, X.length = n + 1 ∧ ad = some ⟨g, 0, none⟩ ∧ ∃ k0 : Nat, W.cell? ⟨g, n * 5, none⟩ = some (.int .i64 (k0 : Nat)) ∧ ((k0 : Int) == (kd : Int)) = false) := by
    rcases hc with hc | rfl | ⟨Y, p, rfl, hk⟩
    · exact Or.inl hc
    · cases on
      · exact Or.inl rfl
      · exact Or.inr (Or.inl ⟨rfl, rfl⟩)
    · cases on
      · exact Or.inl rfl
      · obtain ⟨g, cap', hv, _, _, _, hg⟩ := h.get (by simp)
        obtain ⟨rfl, _, _⟩ := Value.slice.inj hv
        exact Or.inr (Or.inr ⟨rfl, g, Y.length, by simp, rfl, p.kind, hg Y.length p (by simp) 0 _ rfl, beq_eq_false_iff_ne.2 (fun e => hk (by omega))⟩)
  clear hc h hstr
  rcases hcc with rfl | ⟨rfl, hn⟩ | ⟨rfl, g, n, hn, rfl, k0, c0, hk⟩
  · go_enter Tryd.func39, Tryd.ntmps39
    go_wp2_with (at_builtin; refine wpList_append_own_at _ rfl _ _ 43 rfl B 72 i0 _ 5 48 Tryd.underlying43 hi hz0 hz1 hz2 rfl (by decide) _ _ _ rfl (World.ownsRow.alloc HR.out _) ⟨W.heap.size, 0, none⟩ 1 1 (ptC (⟨kd, a, 0, false, t.data.toList⟩ : Pt)) rfl rfl (cells_new _ _ _) (by simp [Value.oneCell']) (by have := maxLen_big; omega) (by omega) (by simp; omega) ?_; intro v6 w6 hown hgrow _ _)
    have hbel : Below B W w6 := grown_own (by simp; omega) ((Below.refl B W).alloc hB _) (World.ownsRow.alloc HR.out _) hgrow
    have HO6 : Hid (RPt w6 B v6 (X ++ [⟨kd, a, 0, false, t.data.toList⟩])) := HST.out _ _ hown
    have HB6 : Hid (Below B W w6) := hbel
    clear hown hgrow hbel
    go_wp2_with fail
    go_ret
    exact ⟨v6, rfl, HO6.out, HB6.out⟩
  · rw [hn] at HR HST ⊢
    go_enter Tryd.func39, Tryd.ntmps39
    go_wp2_with (at_builtin; refine wpList_append_own_at _ rfl _ _ 43 rfl B 72 i0 _ 5 48 Tryd.underlying43 hi hz0 hz1 hz2 rfl (by decide) _ _ _ rfl (World.ownsRow.alloc HR.out _) ⟨W.heap.size, 0, none⟩ 1 1 (ptC (⟨kd, a, 0, false, t.data.toList⟩ : Pt)) rfl rfl (cells_new _ _ _) (by simp [Value.oneCell']) (by have := maxLen_big; omega) (by omega) (by simp; omega) ?_; intro v6 w6 hown hgrow _ _)
    have hbel : Below B W w6 := grown_own (by simp; omega) ((Below.refl B W).alloc hB _) (World.ownsRow.alloc HR.out _) hgrow
    have HO6 : Hid (RPt w6 B v6 (X ++ [⟨kd, a, 0, false, t.data.toList⟩])) := HST.out _ _ hown
    have HB6 : Hid (Below B W w6) := hbel
    clear hown hgrow hbel
    go_wp2_with fail
    go_ret
    exact ⟨v6, rfl, HO6.out, HB6.out⟩
  · rw [hn] at HR HST ⊢
    have hm : (n : Int) + 1 - 1 = (n : Int) := by omega
    have hpos : (0 : Int) < (n : Int) + 1 := by omega
    have hlt2 : (n : Int) < (n : Int) + 1 := by omega
    go_enter Tryd.func39, Tryd.ntmps39
    go_wp2_with (at_builtin; refine wpList_append_own_at _ rfl _ _ 43 rfl B 72 i0 _ 5 48 Tryd.underlying43 hi hz0 hz1 hz2 rfl (by decide) _ _ _ rfl (World.ownsRow.alloc HR.out _) ⟨W.heap.size, 0, none⟩ 1 1 (ptC (⟨kd, a, 0, false, t.data.toList⟩ : Pt)) rfl rfl (cells_new _ _ _) (by simp [Value.oneCell']) (by have := maxLen_big; omega) (by omega) (by simp; omega) ?_; intro v6 w6 hown hgrow _ _)
    have hbel : Below B W w6 := grown_own (by simp; omega) ((Below.refl B W).alloc hB _) (World.ownsRow.alloc HR.out _) hgrow
    have HO6 : Hid (RPt w6 B v6 (X ++ [⟨kd, a, 0, false, t.data.toList⟩])) := HST.out _ _ hown
    have HB6 : Hid (Below B W w6) := hbel
    clear hown hgrow hbel
    go_wp2_with fail
    go_ret
    exact ⟨v6, rfl, HO6.out, HB6.out⟩
end Go.Proofs.YtlbdecohmjpgaaaDoor
