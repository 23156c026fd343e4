/- A copy of texts. -/
import Derived.Test.YthhghkjgffcpeaaDoorFirst
namespace Go.Proofs.YthhghkjgffcpeaaDoor
open Go.RowKit Go.Shelf

theorem info9 : (Tryd.prog.info? 9).map (fun i => (i.zero, i.size, i.bytes)) = some (some (.string ⟨#[]⟩), 1, 16) := by kernel_rfl
theorem txV_append (U I : List Txt) : txV (U ++ I) = txV U ++ txV I := by simp only [txV, List.map_append]
theorem Tx.cells {W : World} {ad : Addr} {n cap : Nat} {I : List Txt} (h : Tx W (.slice (some ad) n cap) I) : ∀ j u, (txV I)[j]? = some u → W.cell? (ad.add j) = some u := by
  intro j u hu
  unfold txV at hu
  rw [List.getElem?_map] at hu
  cases hp : I[j]? with
  | none => rw [hp] at hu; simp at hu
  | some p =>
    rw [hp] at hu
    cases hu
    obtain ⟨g, o, cap', h1, _, _, h3⟩ := h.inRow (fun e => by rw [e] at hp; simp at hp)
    cases h1
    rw [Addr.add_lit]
    exact h3 j p hp

set_option maxRecDepth 100000 in
set_option maxHeartbeats 2000000 in
theorem texts_any (v : Value) (l : List Txt) (w : World) (h : Tx w v l) (hl : l.length < 4294967296) :
    Calls Tryd.prog 39 #[v] w fun e w' => ∃ v', e = .returned v' ∧ w'.ownsRow w.heap.size 9 1 v' l.length (txV l) ∧ Below w.heap.size w w' := by
  obtain ⟨i0, hi0, hz0, hz1, hz2⟩ := info_parts info9
  have HT : Hid (Tx w v l) := h
  obtain ⟨ad, cap, rfl⟩ := h.form
  clear h
  go_enter Tryd.func39, Tryd.ntmps39
  go_wp2_with (at_make; refine wpList_make_own _ rfl _ _ 39 rfl w.heap.size 9 i0 (.string ⟨#[]⟩) 1 Tryd.underlying39 hi0 hz0 hz1 .i64 .i64 _ l.length rfl rfl rfl (by rw [hz2]; omega) (by have := maxLen_big; omega) (Nat.le_refl _) ?_; intro w0 hown0 hgrow0)
  have hb0 : Below w.heap.size w w0 := (Below.refl _ w).grown hgrow0 (Nat.le_refl _) fun q e => by cases e
  have HO0 : Hid _ := hown0
  clear hown0 hgrow0
  go_loopw [3, 4] (fun v3 v4 wr => ∃ k : Nat, v4 = .int .i64 k ∧ k ≤ l.length ∧ Hid (wr.ownsRow w.heap.size 9 1 v3 (l.take k).length (txV (l.take k))) ∧ Below w.heap.size w wr) (fun _ v4 _ => l.length - (intOf v4).toNat)
  case atStart => exact ⟨0, rfl, by omega, HO0.out, hb0⟩
  case round =>
    obtain ⟨k, rfl, hk, HO, hbr⟩ := hrel
    by_cases hkl : k < l.length
    · obtain ⟨x, hx⟩ : ∃ x, l[k]? = some x := ⟨_, List.getElem?_eq_getElem hkl⟩
      obtain ⟨g, o, cap', hv, hcc, hg, hce⟩ := HT.out.inRow (fun e => by rw [e] at hkl; simp at hkl)
      cases hv
      have c0 := (hbr.cell (p := ⟨g, o + k, none⟩) hg).trans (hce k x hx)
      have HTK : Hid (l.take (k + 1) = l.take k ++ [x]) := by unfold Hid; rw [List.take_add_one, hx]; rfl
      have HTL : Hid ((l.take k).length = k) := by unfold Hid; rw [List.length_take]; omega
      have ho := HO.out
      rw [HTL.out] at ho
      clear hce hx
      have hba : Below w.heap.size w (wr.alloc (.cells #[.string ⟨x.toArray⟩] 9)) := hbr.alloc hbr.size _
      go_wp2_with (at_builtin; refine wpList_append_own _ rfl _ _ 39 rfl w.heap.size 9 i0 (.string ⟨#[]⟩) 1 16 Tryd.underlying39 hi0 hz0 hz1 hz2 rfl (by decide) _ _ _ rfl (ho.alloc _) ⟨wr.heap.size, 0, none⟩ 1 1 (txV [x]) rfl rfl (Tx.cells (Tx.one wr x)) (txV_one [x]) (by have := maxLen_big; omega) (by omega) hba.size ?_; intro v' w5 hown' hgrow _)
      refine ⟨⟨k + 1, by simp, by omega, ?_, grown_own hba.size hba (ho.alloc _) hgrow⟩, by simp [intOf]; omega⟩
      have e1 := HTK.out
      unfold Hid
      rw [e1, txV_append, List.length_append, HTL.out]
      exact hown'
    · have hkz : k = l.length := by omega
      subst hkz
      rw [List.take_length] at HO
      go_wp2_with fail
      go_ret
      exact ⟨_, rfl, HO.out, hbr⟩
end Go.Proofs.YthhghkjgffcpeaaDoor
