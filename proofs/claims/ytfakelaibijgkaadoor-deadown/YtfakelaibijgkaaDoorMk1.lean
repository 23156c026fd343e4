/- Lists of nodes, made in the document's own way. -/
import Derived.Test.YtfakelaibijgkaaDoorClone
namespace Go.Proofs.YtfakelaibijgkaaDoor
open Go.RowKit
attribute [local go_sem] Oper.semAt_some

theorem ndCs_snoc (X : List Nd) (x : Nd) : ndCs (X ++ [x]) = ndCs X ++ ndC x := by simp [ndCs]
set_option maxRecDepth 100000 in
set_option maxHeartbeats 2000000 in
theorem nodes_any (v : Value) (X : List Nd) (W : World) (h : NdAt W v X) (hl : X.length < 4294967296) :
    Calls Tryd.prog 8 #[v] W fun e w' => ∃ v', e = .returned v' ∧ NdOwn w' W.heap.size v' X ∧ Below W.heap.size W w' := by
  obtain ⟨i0, hi0, hz0, hz1, hz2⟩ := info_parts info28
  have HH : Hid (∀ W', Below W.heap.size W W' → NdAt W' v X) := fun W' hb => h.below hb (Nat.le_refl _)
  obtain ⟨ad, cap, rfl⟩ := h.form
  clear h
  go_enter Tryd.func8, Tryd.ntmps8
  go_wp2_with (at_make; refine wpList_make_own _ rfl _ _ 22 rfl W.heap.size 26 i0 _ 5 Tryd.underlying22 hi0 hz0 hz1 .i64 .i64 _ X.length rfl rfl rfl (by rw [hz2]; omega) (by have := maxLen_big; omega) (Nat.le_refl _) ?_; intro w0 hown0 hgrow0)
  have hb0 : Below W.heap.size W w0 := (Below.refl _ W).grown hgrow0 (Nat.le_refl _) fun q e => by cases e
  have HO0 : Hid (NdOwn w0 W.heap.size (.slice (some ⟨W.heap.size, 0, none⟩) 0 X.length) []) := hown0
  clear hown0 hgrow0
  go_loopw [3, 4] (fun v3 v4 wr => ∃ i : Nat, v4 = .int .i64 i ∧ i ≤ X.length ∧ Hid (NdOwn wr W.heap.size v3 (X.take i)) ∧ Below W.heap.size W wr) (fun _ v4 _ => X.length - (intOf v4).toNat)
  case atStart => exact ⟨0, rfl, by omega, HO0.out, hb0⟩
  case round =>
    obtain ⟨i, rfl, hi, HO, hbr⟩ := hrel
    obtain ⟨ado, capo, rfl⟩ := owns_slice HO.out
    by_cases hlt : i < X.length
    · have hlt' : (i : Int) < (X.length : Int) := by omega
      obtain ⟨x, hx⟩ : ∃ x, X[i]? = some x := ⟨_, List.getElem?_eq_getElem hlt⟩
      obtain ⟨g, o, cap', hv, hg, c0, c1, c2, c3, c4⟩ := (HH.out _ hbr).at hx
      cases hv
      have HTK : Hid (X.take (i + 1) = X.take i ++ [x]) := by unfold Hid; rw [List.take_add_one, hx]; rfl
      have htl : (X.take i).length = i := by rw [List.length_take]; omega
      rw [htl] at HO ⊢
      have ho : wr.ownsRow W.heap.size 26 5 (.slice ado i capo) i (ndCs (X.take i)) := by have := HO.out; unfold NdOwn at this; rw [htl] at this; exact this
      have hws := hbr.size
      obtain ⟨kd, nn, K, sz, s⟩ := x
      simp only at c0 c1 c2 c3 c4
      clear hx
      go_wp2_with (at_builtin; refine wpList_append_own_at _ rfl _ _ 22 rfl W.heap.size 26 i0 _ 5 48 Tryd.underlying22 hi0 hz0 hz1 hz2 rfl (by decide) _ _ _ rfl (ho.alloc _) ⟨wr.heap.size, 0, none⟩ 1 1 (ndC ⟨kd, nn, K, sz, s⟩) rfl rfl (cells_new wr _ 26) (ndC_one1 _) (by have := maxLen_big; omega) (by omega) (Nat.le_trans hws (below_new _ _).size) ?_; intro v2 w2 hown2 hgrow2 _ _)
      refine ⟨⟨i + 1, by simp, by omega, ?_, grown_own (Nat.le_trans hws (below_new _ _).size) (hbr.alloc hws _) (ho.alloc _) hgrow2⟩, by simp [intOf]; omega⟩
      unfold Hid NdOwn
      rw [HTK.out, ndCs_snoc, List.length_append, htl]
      exact hown2
    · have hlt' : ¬ (i : Int) < (X.length : Int) := by omega
      have hie : i = X.length := by omega
      have HOX : Hid (NdOwn wr W.heap.size (.slice ado X.length capo) X) := by
        have := HO.out
        rw [show X.take i = X by rw [hie, List.take_length]] at this
        exact this
      go_wp2_with fail
      go_ret
      exact ⟨_, rfl, HOX.out, hbr⟩
theorem owns_cells {W : World} {B n : Nat} {g cap : Nat} {xs : List Value} (h : W.ownsRow B 26 5 (.slice (some ⟨g, 0, none⟩) n cap) n xs) (j : Nat) (hj : j < n * 5) : ∃ u, W.cell? ⟨g, j, none⟩ = some u ∧ W.frozen? ⟨g, j, none⟩ = false := by
  rcases h.2 with ⟨hv, _⟩ | ⟨g', cap', cur, hv, hb, hg, h1, h2, h3, h4⟩
  · cases hv
  · cases hv
    have hlt : j < cur.size := by
      have : n * 5 ≤ cap * 5 := Nat.mul_le_mul_right 5 h1
      omega
    exact ⟨cur[j], (Cel.cell (W := W) (t := 26) (cs := cur) hg j).trans (Array.getElem?_eq_getElem hlt), Cel.frozen (W := W) (t := 26) (cs := cur) hg j⟩
end Go.Proofs.YtfakelaibijgkaaDoor
