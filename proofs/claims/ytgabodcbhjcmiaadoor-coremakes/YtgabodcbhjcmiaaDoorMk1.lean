/- Lists of nodes, made in the document's own way. -/
import Derived.Test.YtgabodcbhjcmiaaDoorClone
namespace Go.Proofs.YtgabodcbhjcmiaaDoor
open Go.RowKit
attribute [local go_sem] Oper.semAt_some

theorem ndCs_snoc (X : List Nd) (x : Nd) : ndCs (X ++ [x]) = ndCs X ++ ndC x := by simp [ndCs]
set_option maxRecDepth 100000 in
set_option maxHeartbeats 2000000 in
theorem nodes_any (v : Value) (X : List Nd) (W : World) (h : NdAt W v X) (hl : X.length < 4294967296) :
    Calls Tryd.prog 10 #[v] W fun e w' => ∃ v', e = .returned v' ∧ NdOwn w' W.heap.size v' X ∧ Below W.heap.size W w' := by
  obtain ⟨i0, hi0, hz0, hz1, hz2⟩ := info_parts info28
  have HH : Hid (∀ W', Below W.heap.size W W' → NdAt W' v X) := fun W' hb => h.below hb (Nat.le_refl _)
  obtain ⟨ad, cap, rfl⟩ := h.form
  clear h
  go_enter Tryd.func10, Tryd.ntmps10
  go_wp2_with (at_make; refine wpList_make_own _ rfl _ _ 25 rfl W.heap.size 28 i0 _ 5 Tryd.underlying25 hi0 hz0 hz1 .i64 .i64 _ X.length rfl rfl rfl (by rw [hz2]; omega) (by have := maxLen_big; omega) (Nat.le_refl _) ?_; intro w0 hown0 hgrow0)
  have hb0 : Below W.heap.size W w0 := (Below.refl _ W).grown hgrow0 (Nat.le_refl _) fun q e => by cases e
  have HO0 : Hid (NdOwn w0 W.heap.size (.slice (some ⟨W.heap.size, 0, none⟩) 0 X.length) []) := hown0
  clear hown0 hgrow0
  go_loopw [3, 4] (fun v3 v4 wr => ∃ i : Nat, v4 = .int .i64 i ∧ i ≤ X.length ∧ Hid (NdOwn wr W.heap.size v3 (X.take i)) ∧ Below W.heap.size W wr) (fun _ v4 _ => X.length - (intOf v4).toNat)
  case atStart => exact ⟨0, rfl, by omega, HO0.out, hb0⟩
  case round =>
    obtain ⟨i, rfl, hi, HO, hbr⟩ := hrel
    obtain ⟨ado, capo, rfl⟩ := owns_slice HO.out
    by_cases hlt : i < X.length
    · have hlt' : (i : Int) < (X.length : Int) := by omega
      obtain ⟨x, hx⟩ : ∃ x, X[i]? = some x := ⟨_, List.getElem?_eq_getElem hlt⟩
      obtain ⟨g, o, cap', hv, hg, c0, c1, c2, c3, c4⟩ := (HH.out _ hbr).at hx
      cases hv
      have HTK : Hid (X.take (i + 1) = X.take i ++ [x]) := by unfold Hid; rw [List.take_add_one, hx]; rfl
      have htl : (X.take i).length = i := by rw [List.length_take]; omega
      rw [htl] at HO ⊢
      have ho : wr.ownsRow W.heap.size 28 5 (.slice ado i capo) i (ndCs (X.take i)) := by have := HO.out; unfold NdOwn at this; rw [htl] at this; exact this
      have hws := hbr.size
      obtain ⟨kd, nn, K, sz, s⟩ := x
      simp only at c0 c1 c2 c3 c4
      clear hx
      go_wp2_with (at_builtin; refine wpList_append_own_at _ rfl _ _ 25 rfl W.heap.size 28 i0 _ 5 48 Tryd.underlying25 hi0 hz0 hz1 hz2 rfl (by decide) _ _ _ rfl (ho.alloc _) ⟨wr.heap.size, 0, none⟩ 1 1 (ndC ⟨kd, nn, K, sz, s⟩) rfl rfl (cells_new wr _ 28) (ndC_one1 _) (by have := maxLen_big; omega) (by omega) (Nat.le_trans hws (below_new _ _).size) ?_; intro v2 w2 hown2 hgrow2 _ _)
      refine ⟨⟨i + 1, by simp, by omega, ?_, grown_own (Nat.le_trans hws (below_new _ _).size) (hbr.alloc hws _) (ho.alloc _) hgrow2⟩, by simp [intOf]; omega⟩
      unfold Hid NdOwn
      rw [HTK.out, ndCs_snoc, List.length_append, htl]
      exact hown2
    · have hlt' : ¬ (i : Int) < (X.length : Int) := by omega
      have hie : i = X.length := by omega
      have HOX : Hid (NdOwn wr W.heap.size (.slice ado X.length capo) X) := by
        have := HO.out
        rw [show X.take i = X by rw [hie, List.take_length]] at this
        exact this
      go_wp2_with fail
      go_ret
      exact ⟨_, rfl, HOX.out, hbr⟩
theorem newN_set (kind n : Int) (s : Txt) (Ys : List (List Nd)) (m : Nat) (hm : m = Ys.flatten.length + 1) : (ndCs (⟨kind, n, Ys.length, 1, s⟩ :: Ys.flatten)).set 3 (.int .i64 (m : Nat)) = ndCs (newN kind n s Ys) := by
  subst hm
  rfl
theorem owns_set3 {W : World} {B n : Nat} {g cap : Nat} {xs : List Value} {u : Value} (h : W.ownsRow B 28 5 (.slice (some ⟨g, 0, none⟩) n cap) n xs) (j : Nat) (_hj : j < n * 5) : (W.setCell ⟨g, j, none⟩ u).ownsRow B 28 5 (.slice (some ⟨g, 0, none⟩) n cap) n (xs.set j u) := by
  refine ⟨by rw [List.length_set]; exact h.1, ?_⟩
  rcases h.2 with ⟨hv, _⟩ | ⟨g', cap', cur, hv, hb, hg, h1, h2, h3, h4⟩
  · cases hv
  · cases hv
    refine .inr ⟨g, cap, cur.setIfInBounds j u, rfl, hb, Cel.set (W := W) (t := 28) (cs := cur) hg (j := j) u, h1, h2, by rw [Array.size_setIfInBounds]; exact h3, ?_⟩
    rw [Array.toList_setIfInBounds, ← h4, List.take_set]
theorem owns_cells {W : World} {B n : Nat} {g cap : Nat} {xs : List Value} (h : W.ownsRow B 28 5 (.slice (some ⟨g, 0, none⟩) n cap) n xs) (j : Nat) (hj : j < n * 5) : ∃ u, W.cell? ⟨g, j, none⟩ = some u ∧ W.frozen? ⟨g, j, none⟩ = false := by
  rcases h.2 with ⟨hv, _⟩ | ⟨g', cap', cur, hv, hb, hg, h1, h2, h3, h4⟩
  · cases hv
  · cases hv
    have hlt : j < cur.size := by
      have : n * 5 ≤ cap * 5 := Nat.mul_le_mul_right 5 h1
      omega
    exact ⟨cur[j], (Cel.cell (W := W) (t := 28) (cs := cur) hg j).trans (Array.getElem?_eq_getElem hlt), Cel.frozen (W := W) (t := 28) (cs := cur) hg j⟩
set_option maxRecDepth 100000 in
set_option maxHeartbeats 4000000 in
theorem refNode_any (kind n : Int) (s : Txt) (v : Value) (K : List (Value × List Nd)) (w : World) (h : KdAt w v K) (hK : K.length < 4294967296) (hT : (kidL K).length < 4294967296) :
    Calls Tryd.prog 29 #[.int .i64 kind, .int .i64 n, str s, v] w fun e w' => ∃ v', e = .returned v' ∧ NdOwn w' w.heap.size v' (newN kind n s (K.map Prod.snd)) ∧ Below w.heap.size w w' := by
  obtain ⟨i0, hi0, hz0, hz1, hz2⟩ := info_parts info28
  have HH : Hid (∀ W', Below w.heap.size w W' → KdAt W' v K) := fun W' hb => h.below hb (Nat.le_refl _)
  obtain ⟨ad, cap, rfl⟩ := h.form
  clear h
  obtain ⟨w1, hw1⟩ : ∃ w1, w1 = w.alloc (.cells #[.int .i64 kind, .int .i64 n, .int .i64 K.length, .int .i64 1, str s] 28) := ⟨_, rfl⟩
  have hb1 : Below w.heap.size w w1 := by rw [hw1]; exact below_new _ _
  have HO1 : Hid (w1.ownsRow w.heap.size 28 5 (.slice (some ⟨w.heap.size, 0, none⟩) 1 1) ((kidL (K.take 0)).length + 1) (ndCs (⟨kind, n, K.length, 1, s⟩ :: kidL (K.take 0)))) := by
    unfold Hid
    rw [hw1]
    refine ⟨rfl, .inr ⟨w.heap.size, 1, _, rfl, Nat.le_refl _, World.alloc_heap_new w _, Nat.le_refl _, by have := maxLen_big; omega, rfl, rfl⟩⟩
  go_enter Tryd.func29, Tryd.ntmps29
  go_upto_region 2 with fail
  rw [← hw1]
  clear hw1
  go_wp2_with fail
  go_loopw [9, 10] (fun v9 v10 wx => ∃ k : Nat, v10 = .int .i64 k ∧ k ≤ K.length ∧ Hid (wx.ownsRow w.heap.size 28 5 v9 ((kidL (K.take k)).length + 1) (ndCs (⟨kind, n, K.length, 1, s⟩ :: kidL (K.take k)))) ∧ Below w.heap.size w wx) (fun _ v10 _ => K.length - (intOf v10).toNat)
  case atStart => exact ⟨0, rfl, by omega, HO1.out, hb1⟩
  case round =>
    obtain ⟨k, rfl, hk, HO, hbr⟩ := hrel
    have hle := kidL_le K k
    by_cases hkl : k < K.length
    · have hkl' : (k : Int) < (K.length : Int) := by omega
      obtain ⟨p, hp⟩ : ∃ p, K[k]? = some p := ⟨_, List.getElem?_eq_getElem hkl⟩
      obtain ⟨g, o, cap', hv, hg, hc, hn⟩ := (HH.out _ hbr).at hp
      cases hv
      have HS : Hid (kidL (K.take (k + 1)) = kidL (K.take k) ++ p.2) := kidL_snoc K k p hp
      have hle' := kidL_le K (k + 1)
      rw [HS.out, List.length_append] at hle'
      obtain ⟨pv, X⟩ := p
      simp only at hle' hc hn
      have ho := HO.out
      have hws := hbr.size
      clear hp
      rcases hn.cells with ⟨rfl, rfl⟩ | ⟨adp, capp, rfl, hcs⟩
      · go_wp2_with (at_builtin; refine wpList_append_own_none rfl _ _ 25 rfl w.heap.size 28 i0 5 Tryd.underlying25 hi0 _ _ _ rfl ho rfl ?_)
        refine ⟨⟨k + 1, by simp, by omega, ?_, hbr⟩, by simp [intOf]; omega⟩
        rw [HS.out, List.append_nil]
        exact HO
      · clear hn
        go_wp2_with (at_builtin; refine wpList_append_own_at _ rfl _ _ 25 rfl w.heap.size 28 i0 _ 5 48 Tryd.underlying25 hi0 hz0 hz1 hz2 rfl (by decide) _ _ _ rfl ho adp X.length capp (ndCs X) rfl (ndCs_length X) hcs (ndC_one X) (by have := maxLen_big; omega) (by omega) hws ?_; intro v2 w2 hown2 hgrow2 _ _)
        refine ⟨⟨k + 1, by simp, by omega, ?_, grown_own hws hbr ho hgrow2⟩, by simp [intOf]; omega⟩
        rw [HS.out, List.length_append, ← List.cons_append, ndCs_append]
        rw [show (kidL (K.take k)).length + X.length + 1 = (kidL (K.take k)).length + 1 + X.length by omega]
        exact hown2
    · have hkl' : ¬ (k : Int) < (K.length : Int) := by omega
      have hkz : k = K.length := by omega
      subst hkz
      rw [List.take_length] at HO
      obtain ⟨m, hm⟩ : ∃ m, (kidL K).length + 1 = m := ⟨_, rfl⟩
      rw [hm] at HO
      have HM : Hid (m = (kidL K).length + 1) := hm.symm
      have hm1 : 1 ≤ m := by omega
      clear hm hle
      obtain ⟨ad9, cap9, rfl⟩ := owns_slice HO.out
      obtain ⟨g9, rfl⟩ : ∃ g9, ad9 = some ⟨g9, 0, none⟩ := by
        rcases HO.out.2 with ⟨hv, h0⟩ | ⟨g', cap', cur, hv, _⟩
        · omega
        · cases hv
          exact ⟨_, rfl⟩
      obtain ⟨u3, c3, f3⟩ := owns_cells HO.out 3 (by omega)
      have HO2 : Hid ((wr.setCell ⟨g9, 3, none⟩ (.int .i64 (m : Nat))).ownsRow w.heap.size 28 5 (.slice (some ⟨g9, 0, none⟩) m cap9) m (ndCs (newN kind n s (K.map Prod.snd)))) := by
        have := owns_set3 (u := .int .i64 (m : Nat)) HO.out 3 (by omega)
        rw [show (K.length : Int) = ((K.map Prod.snd).length : Nat) by simp, show kidL K = (K.map Prod.snd).flatten from rfl, newN_set _ _ _ _ m HM.out] at this
        exact this
      have hb9 := hbr.setCell (p := ⟨g9, 3, none⟩) (HO.out.lt g9 rfl).1 (.int .i64 (m : Nat))
      have hm0 : 0 < m := hm1
      clear HO
      go_wp2_with fail
      go_ret
      refine ⟨_, rfl, ?_, hb9⟩
      have e : (newN kind n s (K.map Prod.snd)).length = m := by rw [HM.out]; simp [newN, kidL]
      unfold NdOwn
      rw [e]
      exact HO2.out
/-- One command that is all of them. -/
def seqL : List (List Nd) → List Nd
  | [] => [nopN]
  | [X] => X
  | X :: Y :: Zs => newN 23 0 [] (X :: Y :: Zs)
theorem seqL_many (Ys : List (List Nd)) (h : 2 ≤ Ys.length) : seqL Ys = newN 23 0 [] Ys := by
  match Ys, h with
  | X :: Y :: Zs, _ => rfl
set_option maxRecDepth 100000 in
set_option maxHeartbeats 2000000 in
theorem seq_all (v : Value) (K : List (Value × List Nd)) (w : World) (h : KdAt w v K) (hK : K.length < 4294967296) (hT : (kidL K).length < 4294967296) :
    Calls Tryd.prog 15 #[v] w fun e w' => ∃ v', e = .returned v' ∧ NdAt w' v' (seqL (K.map Prod.snd)) ∧ Below w.heap.size w w' := by
  by_cases h2 : 2 ≤ K.length
  · refine Calls.mono (seq_many v K w h h2 hK hT) ?_
    rintro e w' ⟨v', rfl, ho, hb⟩
    refine ⟨v', rfl, ?_, hb⟩
    rw [seqL_many _ (by rw [List.length_map]; exact h2)]
    exact ho.at
  · match K, h2 with
    | [], _ =>
      obtain ⟨ad, cap, rfl⟩ := h.form
      clear h
      go_enter Tryd.func15, Tryd.ntmps15
      go_wp2_with fail
      refine (new_leaf 20 0 [] _).mono ?_
      rintro e w1 ⟨v1, rfl, ho, hb⟩
      go_wp2_with fail
      go_ret
      exact ⟨_, rfl, NdOwn.at ho, hb⟩
    | [p], _ =>
      obtain ⟨pv, X⟩ := p
      obtain ⟨g, o, cap, hv, hg, hc, hn⟩ := h.at (j := 0) (p := (pv, X)) rfl
      subst hv
      simp only [Nat.add_zero] at hc hn
      have hx : X.length < 4294967296 := by simpa [kidL] using hT
      have HC : Hid (Calls Tryd.prog 28 #[pv] w fun e w' => ∃ v', e = .returned v' ∧ NdOwn w' w.heap.size v' X ∧ Below w.heap.size w w') := clone_any pv X w hn hx
      clear h hn
      go_enter Tryd.func15, Tryd.ntmps15
      go_wp2_with fail
      refine Calls.mono HC.out ?_
      rintro e w1 ⟨v1, rfl, ho, hb⟩
      go_wp2_with fail
      go_ret
      exact ⟨_, rfl, NdOwn.at ho, hb⟩
    | p :: q :: K, h2 => exact absurd (by simp) h2
set_option maxRecDepth 100000 in
set_option maxHeartbeats 2000000 in
theorem refSeq_all (v : Value) (K : List (Value × List Nd)) (w : World) (h : KdAt w v K) (hK : K.length < 4294967296) (hT : (kidL K).length < 4294967296) :
    Calls Tryd.prog 16 #[v] w fun e w' => ∃ v', e = .returned v' ∧ NdAt w' v' (seqL (K.map Prod.snd)) ∧ Below w.heap.size w w' := by
  by_cases h2 : 2 ≤ K.length
  · have HN : Hid (Calls Tryd.prog 29 #[.int .i64 23, .int .i64 0, .string ⟨#[]⟩, v] w fun e w' => ∃ v', e = .returned v' ∧ NdOwn w' w.heap.size v' (newN 23 0 [] (K.map Prod.snd)) ∧ Below w.heap.size w w') := refNode_any 23 0 [] v K w h hK hT
    have HS : Hid (seqL (K.map Prod.snd) = newN 23 0 [] (K.map Prod.snd)) := seqL_many _ (by rw [List.length_map]; exact h2)
    obtain ⟨ad, cap, rfl⟩ := h.form
    clear h hT
    obtain ⟨n, hn⟩ : ∃ n, K.length = n := ⟨_, rfl⟩
    rw [hn] at h2 HN ⊢
    have h0 : ((n : Int) == 0) = false := by simp; omega
    have h1 : ((n : Int) == 1) = false := by simp; omega
    clear hn
    go_enter Tryd.func16, Tryd.ntmps16
    go_wp2_with fail
    refine Calls.mono HN.out ?_
    rintro e w1 ⟨v1, rfl, ho, hb⟩
    go_wp2_with fail
    go_ret
    exact ⟨_, rfl, by rw [HS.out]; exact NdOwn.at ho, hb⟩
  · match K, h2 with
    | [], _ =>
      obtain ⟨ad, cap, rfl⟩ := h.form
      have HN : Hid (Calls Tryd.prog 29 #[.int .i64 20, .int .i64 0, .string ⟨#[]⟩, .slice none 0 0] w fun e w' => ∃ v', e = .returned v' ∧ NdOwn w' w.heap.size v' [nopN] ∧ Below w.heap.size w w') := refNode_any 20 0 [] (.slice none 0 0) [] w (KdAt.nil w) (by decide) (by decide)
      clear h
      go_enter Tryd.func16, Tryd.ntmps16
      go_wp2_with fail
      refine Calls.mono HN.out ?_
      rintro e w1 ⟨v1, rfl, ho, hb⟩
      go_wp2_with fail
      go_ret
      exact ⟨_, rfl, NdOwn.at ho, hb⟩
    | [p], _ =>
      obtain ⟨pv, X⟩ := p
      obtain ⟨g, o, cap, hv, hg, hc, hn⟩ := h.at (j := 0) (p := (pv, X)) rfl
      subst hv
      simp only [Nat.add_zero] at hc hn
      have HX : Hid (NdAt w pv X) := hn
      clear h hn
      go_enter Tryd.func16, Tryd.ntmps16
      go_wp2_with fail
      go_ret
      exact ⟨_, rfl, HX.out, Below.refl _ _⟩
    | p :: q :: K, h2 => exact absurd (by simp) h2
end Go.Proofs.YtgabodcbhjcmiaaDoor
