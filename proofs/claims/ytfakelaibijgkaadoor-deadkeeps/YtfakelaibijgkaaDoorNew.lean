/- Nodes are put together. -/
import Derived.Test.YtfakelaibijgkaaDoorMem
namespace Go.Proofs.YtfakelaibijgkaaDoor
open Go.RowKit
attribute [local go_sem] Oper.semAt_some

theorem ndC_one1 (x : Nd) : ∀ u ∈ ndC x, u.oneCell' = true := by
  have := ndC_one [x]
  simpa only [ndCs, List.flatMap_cons, List.flatMap_nil, List.append_nil] using this
set_option maxRecDepth 100000 in
set_option maxHeartbeats 4000000 in
theorem new_any (kind n : Int) (s : Txt) (v : Value) (K : List (Value × List Nd)) (w : World) (h : KdAt w v K) (hK : K.length < 4294967296) (hT : (kidL K).length < 4294967296) :
    Calls Tryd.prog 15 #[.int .i64 kind, .int .i64 n, str s, v] w fun e w' => ∃ v', e = .returned v' ∧ w'.ownsRow w.heap.size 26 5 v' ((kidL K).length + 1) (ndCs (newN kind n s (K.map Prod.snd))) ∧ Below w.heap.size w w' := by
  obtain ⟨i0, hi0, hz0, hz1, hz2⟩ := info_parts info28
  have HH : Hid (∀ W', Below w.heap.size w W' → KdAt W' v K) := fun W' hb => h.below hb (Nat.le_refl _)
  obtain ⟨ad, cap, rfl⟩ := h.form
  clear h
  go_enter Tryd.func15, Tryd.ntmps15
  go_wp2_with fail
  go_loopw [9, 17] (fun v9 v17 wr => ∃ k : Nat, v17 = .int .i64 k ∧ k ≤ K.length ∧ v9 = .int .i64 ((kidL (K.take k)).length + 1 : Nat) ∧ w = wr) (fun _ v17 _ => K.length - (intOf v17).toNat)
  case atStart => exact ⟨0, rfl, by omega, rfl, rfl⟩
  case round =>
    obtain ⟨k, rfl, hk, rfl, rfl⟩ := hrel
    have hle := kidL_le K k
    by_cases hkl : k < K.length
    · obtain ⟨p, hp⟩ : ∃ p, K[k]? = some p := ⟨_, List.getElem?_eq_getElem hkl⟩
      obtain ⟨g, o, cap', hv, hg, hc, hn⟩ := (HH.out _ (Below.refl _ _)).at hp
      cases hv
      have HS : Hid (kidL (K.take (k + 1)) = kidL (K.take k) ++ p.2) := kidL_snoc K k p hp
      have hle' := kidL_le K (k + 1)
      rw [HS.out, List.length_append] at hle'
      obtain ⟨pv, X⟩ := p
      obtain ⟨adp, capp, hpv⟩ := hn.form
      simp only at hpv hle' hc
      subst hpv
      clear hp hn
      go_wp2_with fail
      refine ⟨⟨k + 1, by simp, by omega, ?_, trivial⟩, by simp [intOf]; omega⟩
      rw [HS.out, List.length_append]
      simp
      omega
    · have hkz : k = K.length := by omega
      subst hkz
      rw [List.take_length]
      have hnl : (newN kind n s (K.map Prod.snd)).take 1 = [⟨kind, n, K.length, (kidL K).length + 1, s⟩] := by simp [newN, kidL]
      go_wp2_with (first | (at_make; refine wpList_make_own _ rfl _ _ 22 rfl w.heap.size 26 i0 _ 5 Tryd.underlying22 hi0 hz0 hz1 .i64 .i64 _ ((kidL K).length + 1) rfl rfl rfl (by rw [hz2]; omega) (by have := maxLen_big; omega) (Nat.le_refl _) ?_; intro w0 hown0 hgrow0) | (at_builtin; refine wpList_append_own_at _ rfl _ _ 22 rfl w.heap.size 26 i0 _ 5 48 Tryd.underlying22 hi0 hz0 hz1 hz2 rfl (by decide) _ _ _ rfl (hown0.alloc _) ⟨w0.heap.size, 0, none⟩ 1 1 (ndC ⟨kind, n, K.length, (kidL K).length + 1, s⟩) rfl rfl (cells_new w0 _ 26) (ndC_one1 _) (by have := maxLen_big; omega) (by omega) (Nat.le_trans hgrow0.size (below_new _ _).size) ?_; intro v1 w1 hown1 hgrow1 _ _))
      have hb0 : Below w.heap.size w w0 := (Below.refl _ w).grown hgrow0 (Nat.le_refl _) fun q e => by cases e
      have hb1 : Below w.heap.size w w1 := grown_own (Nat.le_trans hb0.size (below_new _ _).size) (hb0.alloc hb0.size _) (hown0.alloc _) hgrow1
      have HO1 : Hid (w1.ownsRow w.heap.size 26 5 v1 ((kidL (K.take 0)).length + 1) (ndCs (⟨kind, n, K.length, (kidL K).length + 1, s⟩ :: kidL (K.take 0)))) := by
        unfold Hid
        simpa [kidL, ndCs] using hown1
      clear hown0 hgrow0 hown1 hgrow1 hb0 hnl
      go_loopw [12, 40] (fun v12 v40 wx => ∃ k : Nat, v40 = .int .i64 k ∧ k ≤ K.length ∧ Hid (wx.ownsRow w.heap.size 26 5 v12 ((kidL (K.take k)).length + 1) (ndCs (⟨kind, n, K.length, (kidL K).length + 1, s⟩ :: kidL (K.take k)))) ∧ Below w.heap.size w wx) (fun _ v40 _ => K.length - (intOf v40).toNat)
      case atStart => exact ⟨0, rfl, by omega, HO1.out, hb1⟩
      case round =>
        obtain ⟨k, rfl, hk, HO, hbr⟩ := hrel
        have hle := kidL_le K k
        by_cases hkl : k < K.length
        · obtain ⟨p, hp⟩ : ∃ p, K[k]? = some p := ⟨_, List.getElem?_eq_getElem hkl⟩
          obtain ⟨g, o, cap', hv, hg, hc, hn⟩ := (HH.out _ hbr).at hp
          cases hv
          have HS : Hid (kidL (K.take (k + 1)) = kidL (K.take k) ++ p.2) := kidL_snoc K k p hp
          have hle' := kidL_le K (k + 1)
          rw [HS.out, List.length_append] at hle'
          obtain ⟨pv, X⟩ := p
          simp only at hle' hc hn
          have ho := HO.out
          have hws := hbr.size
          clear hp
          rcases hn.cells with ⟨rfl, rfl⟩ | ⟨adp, capp, rfl, hcs⟩
          · go_wp2_with (at_builtin; refine wpList_append_own_none rfl _ _ 22 rfl w.heap.size 26 i0 5 Tryd.underlying22 hi0 _ _ _ rfl ho rfl ?_)
            refine ⟨⟨k + 1, by simp, by omega, ?_, hbr⟩, by simp [intOf]; omega⟩
            rw [HS.out, List.append_nil]
            exact HO
          · clear hn
            go_wp2_with (at_builtin; refine wpList_append_own_at _ rfl _ _ 22 rfl w.heap.size 26 i0 _ 5 48 Tryd.underlying22 hi0 hz0 hz1 hz2 rfl (by decide) _ _ _ rfl ho adp X.length capp (ndCs X) rfl (ndCs_length X) hcs (ndC_one X) (by have := maxLen_big; omega) (by omega) hws ?_; intro v2 w2 hown2 hgrow2 _ _)
            refine ⟨⟨k + 1, by simp, by omega, ?_, grown_own hws hbr ho hgrow2⟩, by simp [intOf]; omega⟩
            rw [HS.out, List.length_append, ← List.cons_append, ndCs_append]
            rw [show (kidL (K.take k)).length + X.length + 1 = (kidL (K.take k)).length + 1 + X.length by omega]
            exact hown2
        · have hkz : k = K.length := by omega
          subst hkz
          rw [List.take_length] at HO
          go_wp2_with fail
          go_ret
          refine ⟨_, rfl, ?_, hbr⟩
          have := HO.out
          simpa [newN, kidL] using this
end Go.Proofs.YtfakelaibijgkaaDoor
