/- The statement on flat lists, walked. -/
import Derived.Test.YtdajacodfnidfaaDoorFlat
namespace Go.Proofs.YtdajacodfnidfaaDoor
open Go.RowKit Go.Shelf

theorem ok_bound_of {l : List (List UInt8)} {r : Option (List (List UInt8))} (h : bound l = r) : Ok (resL r) := by
  rw [← h]
  exact ok_bound l
theorem resW_none (a : Addr) : resV a none = bigV a := rfl
theorem resW_some (a : Addr) (l : List (List UInt8)) : resV a (some l) = .nilIface := rfl
theorem resM_none : resL none = [] := rfl
theorem resM_some (l : List (List UInt8)) : resL (some l) = l := rfl

set_option maxRecDepth 100000 in
set_option maxHeartbeats 8000000 in
theorem flat_main (v : Value) (l : List (List UInt8)) (w : World) (a : Addr) (h : Tx w v l) (hz : l.length < 140737488355328) (hzz : ∀ s ∈ l, s.length ≤ 140737488355328) (hE : Eb w a) :
    Calls Tryd.prog 4 #[v] w fun e w' => e = .returned (.bool true) ∧ Below w.heap.size w w' := by
  have HT : Hid (∀ W, Below w.heap.size w W → Tx W v l) := fun W hW => h.below hW (Nat.le_refl _)
  have HE : Hid (∀ W, Below w.heap.size w W → Eb W a) := fun W hW => hE.below hW hE.pos
  have HZZ : Hid (∀ s ∈ l, s.length ≤ 140737488355328) := hzz
  obtain ⟨ad, cap, rfl⟩ := h.form
  clear h hE hzz
  by_cases h30 : l.length > 30
  · go_enter Tryd.func4, Tryd.ntmps4
    go_wp2_with fail
    refine (first_any _ a (HE.out _ (Below.refl _ _))).mono ?_
    rintro e w1 ⟨rfl, hb1⟩
    go_wp2_with fail
    go_ret
    exact ⟨rfl, hb1⟩
  · go_enter Tryd.func4, Tryd.ntmps4
    go_wp2_with fail
    refine (first_any _ a (HE.out _ (Below.refl _ _))).mono ?_
    rintro e w1 ⟨rfl, hb1⟩
    go_wp2_with fail
    have HLI : Hid _ := light_any _ [l] _ (Tss.one w1 _ l (HT.out _ hb1)) (by simp) (fun x hx => by simp at hx; subst hx; omega) (fun x hx => by simp at hx; subst hx; exact HZZ.out)
    cases hl : lightB [l]
    · rw [hl] at HLI
      refine Calls.mono HLI.out ?_
      rintro e w2 ⟨rfl, hw2⟩
      have hb2 : Below w1.heap.size w1 w2 := by rw [hw2]; exact below_new _ _
      clear hw2
      go_wp2_with fail
      go_ret
      exact ⟨rfl, hb1.trans (hb2.mono hb1.size)⟩
    · rw [hl] at HLI
      have hli := (lightB_iff _).1 hl
      have OL : Hid (Ok l) := ⟨by omega, fun s hs => by have h1 := sumL_mem l s hs; have h2 := sumLs_mem [l] l (by simp); have := hli.2; omega⟩
      clear hl hli
      refine Calls.mono HLI.out ?_
      rintro e w2 ⟨rfl, hw2⟩
      have hb2' : Below w1.heap.size w1 w2 := by rw [hw2]; exact below_new _ _
      have hb2 := hb1.trans (hb2'.mono hb1.size)
      clear hw2 hb2' HLI hb1
      go_wp2_with fail
      go_loopw [4] (fun v4 wr => ∃ k : Nat, v4 = .int .i64 k ∧ k ≤ l.length ∧ Hid (∀ j s, j < k → l[j]? = some s → s ≠ []) ∧ wr = w2) (fun v4 _ => l.length - (intOf v4).toNat)
      case atStart => exact ⟨0, rfl, by omega, fun j s hj => by omega, rfl⟩
      case round =>
        obtain ⟨k, rfl, hk, HJ, hwr⟩ := hrel
        subst hwr
        by_cases hkl : k < l.length
        · obtain ⟨s, hs⟩ : ∃ s, l[k]? = some s := ⟨_, List.getElem?_eq_getElem hkl⟩
          obtain ⟨g, o, cap', hv, hcc, hg, hce⟩ := (HT.out _ hb2).inRow (fun e => by rw [e] at hkl; simp at hkl)
          cases hv
          have c0 := hce k s hs
          have HS : Hid _ := hs
          clear hce hs
          by_cases h0 : s = []
          · subst h0
            go_wp2_with fail
            go_ret
            exact ⟨rfl, hb2⟩
          · have HN : Hid (s ≠ []) := h0
            cases s with
            | nil => exact absurd rfl h0
            | cons c s' =>
              clear h0
              go_wp2_with fail
              refine ⟨⟨k + 1, by simp, by omega, ?_, trivial⟩, by simp [intOf]; omega⟩
              intro j t hj ht
              by_cases hjk : j = k
              · subst hjk
                rw [HS.out] at ht
                cases ht
                exact HN.out
              · exact HJ.out j t (by omega) ht
        · have hkz : k = l.length := by omega
          subst hkz
          have HNE : Hid (∀ s ∈ l, s ≠ []) := fun s hs => by
            obtain ⟨j, hj, hjs⟩ := List.mem_iff_getElem.1 hs
            exact HJ.out j s hj (by rw [List.getElem?_eq_getElem hj, hjs])
          clear HJ
          go_wp2_with fail
          obtain ⟨r1, HR1⟩ : ∃ r, Hid (bound (l.map escL) = r) := ⟨_, rfl⟩
          have O1 : Hid (Ok (resL r1)) := ok_bound_of HR1.out
          refine (esc_all _ l wr a (HT.out _ hb2) OL.out (HE.out _ hb2)).mono ?_
          rw [HR1.out]
          rintro e w3 ⟨hg3, hb3'⟩
          obtain ⟨ad3, cap3, rfl, ht3⟩ := hg3.both
          have HT3 : Hid (∀ W, Below w3.heap.size w3 W → Tx W (.slice ad3 (resL r1).length cap3) (resL r1)) := fun W hW => ht3.below hW (Nat.le_refl _)
          have hb3 := hb2.trans (hb3'.mono hb2.size)
          clear ht3 hg3 hb3'
          go_wp2_with fail
          obtain ⟨r2, HR2⟩ : ∃ r, Hid (flatB (resL r1) = r) := ⟨_, rfl⟩
          refine (flat_any _ (resL r1) w3 a (HT3.out _ (Below.refl _ _)) O1.out (HE.out _ hb3)).mono ?_
          rw [HR2.out]
          rintro e w4 ⟨hg4, b34⟩
          obtain ⟨ad4, cap4, rfl, ht4⟩ := hg4.both
          have hb4 := hb3.trans (b34.mono hb3.size)
          have HT4 : Hid (Tx w4 (.slice ad4 (resL r2).length cap4) (resL r2)) := ht4
          clear ht4 hg4
          go_upto_region 11 with fail
          cases r1 with
          | none =>
            simp only [resW_none, resM_none]
            go_wp2_with fail
            go_ret
            exact ⟨rfl, hb4⟩
          | some E =>
            obtain ⟨hE1, hE2⟩ := bound_some HR1.out
            cases r2 with
            | none =>
              simp only [resW_none, resW_some, resM_none, resM_some]
              go_wp2_with fail
              go_ret
              exact ⟨rfl, hb4⟩
            | some F =>
              obtain ⟨hF1, hF2⟩ := flatB_fits _ _ HR2.out
              have OF : Hid (Ok F) := Ok.fits hF2
              have OF2 : Hid (∀ s ∈ F, s.length < 4294967295) := fun s hs => by have := fits_mem _ hF2 s hs; omega
              have HSP : Hid (bound (gatAll splitL F) = some E) := by
                unfold Hid
                rw [hF1, resM_some, gat_one, hE1, split_flat l HNE.out]
                unfold bound
                rw [hE2]
                rfl
              have HPL : Hid (bound (E.map plainL) = some l) := by
                unfold Hid
                have e1 : E.map plainL = l := by rw [hE1]; exact plain_back l
                rw [e1]
                unfold bound
                rw [fits_unesc l hE2]
                rfl
              have OE : Hid (Ok E) := O1.out
              have HF4 : Hid (Tx w4 (.slice ad4 F.length cap4) F) := HT4.out
              have HE3 : Hid (∀ W, Below w3.heap.size w3 W → Tx W (.slice ad3 E.length cap3) E) := HT3.out
              clear hF1 hF2 hE1 hE2 HR1 HR2 O1 HT4 HT3
              simp only [resW_some, resM_some]
              go_wp2_with fail
              refine (split_all _ F w4 a HF4.out OF.out OF2.out (HE.out _ hb4)).mono ?_
              rw [HSP.out]
              rintro e w5 ⟨⟨v5, rfl, ho5⟩, b45⟩
              have t5 := Tx.owned ho5
              have HT5 : Hid (∀ W, Below w5.heap.size w5 W → Tx W v5 E) := fun W hW => t5.below hW (Nat.le_refl _)
              obtain ⟨ad5, cap5, rfl⟩ := t5.form
              have hb5 := hb4.trans (b45.mono hb4.size)
              clear t5 ho5
              go_wp2_with fail
              refine (plain_all _ E w5 a (HT5.out _ (Below.refl _ _)) OE.out (HE.out _ hb5)).mono ?_
              rw [HPL.out]
              rintro e w6 ⟨⟨v6, rfl, ho6⟩, b56⟩
              have t6 := Tx.owned ho6
              have HT6 : Hid (∀ W, Below w6.heap.size w6 W → Tx W v6 l) := fun W hW => t6.below hW (Nat.le_refl _)
              obtain ⟨ad6, cap6, rfl⟩ := t6.form
              have hb6 := hb5.trans (b56.mono hb5.size)
              have b46 := b45.trans (b56.mono b45.size)
              have b36 := b34.trans (b46.mono b34.size)
              clear t6 ho6
              go_wp2_with fail
              refine (same_any w6 _ _ E E (HT5.out _ b56) (HE3.out _ b36) OE.out OE.out rfl).mono ?_
              rintro e w7 ⟨rfl, b67⟩
              have hb7 := hb6.trans (b67.mono hb6.size)
              go_wp2_with fail
              refine (same_any w7 _ _ l l (HT6.out _ b67) (HT.out _ hb7) OL.out OL.out rfl).mono ?_
              rintro e w8 ⟨rfl, b78⟩
              go_wp2_with fail
              go_ret
              exact ⟨rfl, hb7.trans (b78.mono hb7.size)⟩
end Go.Proofs.YtdajacodfnidfaaDoor
