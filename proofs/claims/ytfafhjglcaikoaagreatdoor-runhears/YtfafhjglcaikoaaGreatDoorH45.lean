/- The document's Erase. -/
import Derived.Test.YtfafhjglcaikoaaGreatDoorH2
import Derived.Test.YtfafhjglcaikoaaGreatDoorH3
import Derived.Test.YtfafhjglcaikoaaGreatDoorH5
namespace Go.Proofs.YtfafhjglcaikoaaGreatDoor
open Go.RowKit
attribute [local go_sem] Oper.semAt_some

set_option maxRecDepth 100000 in
set_option maxHeartbeats 4000000 in
theorem rerase_any {W : World} {v : Value} {X : List (Ev × Value)} (h : EvAt W v X) (hX : X.length < 4294967296) :
    Calls Tryz.prog 24 #[v] W fun e w' => ∃ v' X', e = .returned v' ∧ EvAt w' v' X' ∧ X'.length ≤ X.length ∧ X'.map Prod.fst = erased (X.map Prod.fst) ∧ Below W.heap.size W w' := by
  obtain ⟨i0, hi, hz0, hz1, hz2⟩ := info_parts info70
  have HH : Hid (∀ W', Below W.heap.size W W' → EvAt W' v X) := fun W' hb => h.below hb (Nat.le_refl _)
  obtain ⟨ad, cap, rfl⟩ := h.form
  clear h
  go_enter Tryz.func24, Tryz.ntmps24
  go_wp2_with fail
  go_loopw [3, 4] (fun v3 v4 wr => ∃ (k : Nat) (X' : List (Ev × Value)), v4 = .int .i64 k ∧ k ≤ X.length ∧ Hid (wr.ownsRow W.heap.size 65 5 v3 X'.length (evCs X') ∧ X' = (X.take k).filter (fun p => !markB p.1.kind)) ∧ Below W.heap.size W wr) (fun _ v4 _ => X.length - (intOf v4).toNat)
  case atStart => exact ⟨0, [], rfl, by omega, ⟨World.ownsRow_nil _ _ _ _, by simp⟩, Below.refl _ _⟩
  case round =>
    obtain ⟨k, X', rfl, hk, HK, hbr⟩ := hrel
    obtain ⟨adp, capp, rfl⟩ := owns_slice HK.out.1
    have HLE : Hid (X'.length ≤ X.length) := by
      unfold Hid
      rw [HK.out.2]
      exact Nat.le_trans (List.length_filter_le _ _) (by simp; omega)
    by_cases hkl : k < X.length
    · obtain ⟨q, hq⟩ : ∃ q, X[k]? = some q := ⟨_, List.getElem?_eq_getElem hkl⟩
      obtain ⟨g, o, cap', hv, hg, c0, c1, c2, c3, c4⟩ := (HH.out _ hbr).at hq
      cases hv
      have HT : Hid (Tx wr q.2 q.1.l) := (HH.out _ hbr).2 q (List.mem_of_getElem? hq)
      have HTK : Hid ((X.take (k + 1)).filter (fun p => !markB p.1.kind) = (X.take k).filter (fun p => !markB p.1.kind) ++ (if markB q.1.kind then [] else [q])) := by
        unfold Hid
        rw [List.take_add_one, hq, List.filter_append]
        cases hm : markB q.1.kind <;> simp [hm]
      obtain ⟨⟨kd, nn, a, b, l⟩, lv⟩ := q
      obtain ⟨adl, capl, hlv⟩ := HT.out.form
      obtain rfl : lv = .slice adl l.length capl := hlv
      have hX' : X'.length < 4294967296 := by have := HLE.out; omega
      clear hq hg
      have hki : (k : Int) < (X.length : Int) := by omega
      cases hm : markB kd with
      | true =>
        rw [if_pos hm, List.append_nil] at HTK
        have hcs : kd = 4 ∨ kd = 5 ∨ kd = 6 := by
          unfold markB at hm
          simp at hm
          omega
        clear hm
        rcases hcs with rfl | rfl | rfl
        all_goals go_wp2_with fail
        all_goals exact ⟨⟨k + 1, X', by simp, by omega, ⟨HK.out.1, by rw [HTK.out]; exact HK.out.2⟩, hbr⟩, by simp [intOf]; omega⟩
      | false =>
        rw [if_neg (by rw [hm]; exact Bool.false_ne_true)] at HTK
        have h4 : (kd != 4) = true := by
          unfold markB at hm
          simp at hm ⊢
          omega
        have h5 : (kd != 5) = true := by
          unfold markB at hm
          simp at hm ⊢
          omega
        have h6 : (kd != 6) = true := by
          unfold markB at hm
          simp at hm ⊢
          omega
        have hba : Below W.heap.size W (wr.alloc (.cells #[.int .i64 kd, .int .i64 nn, str a, str b, .slice adl l.length capl] 65)) := hbr.alloc hbr.size _
        have HOA : Hid ((wr.alloc (.cells #[.int .i64 kd, .int .i64 nn, str a, str b, .slice adl l.length capl] 65)).ownsRow W.heap.size 65 5 (.slice adp X'.length capp) X'.length (evCs X')) := owns_below HK.out.1 (below_new _ _)
        have HBA : Hid _ := hba
        have hBs : W.heap.size ≤ (wr.alloc (.cells #[.int .i64 kd, .int .i64 nn, str a, str b, .slice adl l.length capl] 65)).heap.size := hba.size
        clear hm hba
        go_wp2_with (at_builtin; refine wpList_append_own _ rfl _ _ 52 rfl W.heap.size 65 i0 _ 5 72 Tryz.underlying52 hi hz0 hz1 hz2 rfl (by decide) _ _ _ rfl HOA.out ⟨wr.heap.size, 0, none⟩ 1 1 (evC ⟨kd, nn, a, b, l⟩ (.slice adl l.length capl)) rfl rfl (cells_new wr _ 65) (evC_one _ _ _) (by have := maxLen_big; omega) (by omega) hBs ?_; intro v4 w4 hown4 hgrow4 _)
        refine ⟨⟨k + 1, X' ++ [(⟨kd, nn, a, b, l⟩, .slice adl l.length capl)], by simp, by omega, ⟨?_, ?_⟩, grown_own hBs HBA.out HOA.out hgrow4⟩, by simp [intOf]; omega⟩
        · rw [evCs_snoc, List.length_append]
          exact hown4
        · rw [HTK.out, ← HK.out.2]
    · have hkz : k = X.length := by omega
      subst hkz
      go_wp2_with fail
      go_ret
      refine ⟨_, X', rfl, EvAt.owned HK.out.1 (fun p hp => (HH.out _ hbr).2 p ?_), HLE.out, ?_, hbr⟩
      · have h2 := HK.out.2
        rw [List.take_length] at h2
        rw [h2] at hp
        exact (List.mem_filter.1 hp).1
      · rw [HK.out.2, List.take_length]
        unfold erased
        rw [List.filter_map]
        rfl
end Go.Proofs.YtfafhjglcaikoaaGreatDoor
