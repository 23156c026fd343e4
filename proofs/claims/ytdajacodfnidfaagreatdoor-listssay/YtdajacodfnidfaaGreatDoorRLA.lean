/- The document's own answers: Flat. -/
import Derived.Test.YtdajacodfnidfaaGreatDoorRefST
import Derived.Test.YtdajacodfnidfaaGreatDoorRefE
import Derived.Test.YtdajacodfnidfaaGreatDoorGrpL
import Derived.Test.YtdajacodfnidfaaGreatDoorRefD
import Derived.Test.YtdajacodfnidfaaGreatDoorFltA
/-! The document's own answers: Fits, Cat, SplitAll, Each. -/
namespace Go.Proofs.YtdajacodfnidfaaGreatDoor
open Go.RowKit Go.Shelf

theorem Tx.src {W : World} {v : Value} {L : List (List UInt8)} (h : Tx W v L) : SrcT W v L := by
  rcases h with h | ⟨ad, cap, rfl, _, h2⟩
  · exact .inl h
  · refine .inr ⟨ad, cap, rfl, fun j u hu => ?_⟩
    have hne : L ≠ [] := fun e => by rw [e] at hu; simp [txV] at hu
    obtain ⟨g, o, rfl, _, hc⟩ := h2 hne
    rw [Addr.add_lit]
    unfold txV at hu
    rw [List.getElem?_map] at hu
    cases hl : L[j]? with
    | none => rw [hl] at hu; simp at hu
    | some p =>
      rw [hl] at hu
      simp only [Option.map_some, Option.some.injEq] at hu
      subst hu
      exact hc j p hl
/-- What the document answers: a list, or that it is too big. -/
def RGot (r : Option (List (List UInt8))) (e : Ending) (w' : World) : Prop := ∃ ad cap, e = .returned (.tuple #[.slice ad (resL r).length cap, .bool r.isSome]) ∧ Tx w' (.slice ad (resL r).length cap) (resL r)
theorem RGot.none (w : World) : RGot none (.returned (.tuple #[.slice none 0 0, .bool false])) w := ⟨_, _, rfl, .inl ⟨rfl, rfl⟩⟩
theorem RGot.some {w : World} {ad : Option Addr} {n cap : Nat} {l : List (List UInt8)} (h : Tx w (.slice ad n cap) l) : RGot (some l) (.returned (.tuple #[.slice ad n cap, .bool true])) w := by
  obtain ⟨ad', cap', hv⟩ := h.form
  cases hv
  exact ⟨_, _, rfl, h⟩
theorem bound_yes {l : List (List UInt8)} (h : fitsB l = true) : bound l = some l := by unfold bound; rw [if_pos h]
theorem bound_no {l : List (List UInt8)} (h : fitsB l = false) : bound l = none := by unfold bound; rw [if_neg (by rw [h]; exact Bool.false_ne_true)]
theorem fits_many {l : List (List UInt8)} (h : 100 < l.length) : fitsB l = false := by
  cases e : fitsB l
  · rfl
  · have := fits_length l e
    omega

set_option maxRecDepth 100000 in
set_option maxHeartbeats 1000000 in
theorem rFits_any (v : Value) (l : List (List UInt8)) (w : World) (h : Tx w v l) (hl : ∀ s ∈ l, s.length < 4294967296) (hn : l.length < 4294967296) :
    Calls Tryz.prog 28 #[v] w fun e w' => e = .returned (.bool (fitsB l)) ∧ w' = w := by
  have HT : Hid (Tx w v l) := h
  have HL : Hid (∀ s ∈ l, s.length < 4294967296) := hl
  obtain ⟨ad, cap, rfl⟩ := h.form
  clear h hl
  by_cases h100 : 100 < l.length
  · have HF : Hid (fitsB l = false) := fits_many h100
    go_enter Tryz.func28, Tryz.ntmps28
    go_wp2_with fail
    go_ret
    exact ⟨by rw [HF.out]; rfl, rfl⟩
  go_enter Tryz.func28, Tryz.ntmps28
  go_wp2_with fail
  go_loopw [3] (fun v3 wr => ∃ i : Nat, v3 = .int .i64 i ∧ i ≤ l.length ∧ Hid (∀ j s, j < i → l[j]? = some s → s.length ≤ 2000) ∧ wr = w) (fun v3 _ => l.length - (intOf v3).toNat)
  case atStart => exact ⟨0, rfl, Nat.zero_le _, fun j s hj => absurd hj (Nat.not_lt_zero _), rfl⟩
  case round =>
    obtain ⟨i, rfl, hi, HI, rfl⟩ := hrel
    by_cases hil : i < l.length
    · obtain ⟨s, hs⟩ : ∃ s, l[i]? = some s := ⟨_, List.getElem?_eq_getElem hil⟩
      obtain ⟨g, o, cap', hv, _, _, hc⟩ := HT.out.inRow (fun e => by rw [e] at hil; simp at hil)
      cases hv
      have e1 := hc i s hs
      have hss : (⟨s.toArray⟩ : ByteArray).size = s.length := str_size' s
      have hsl := HL.out s (List.mem_of_getElem? hs)
      have HS : Hid (l[i]? = some s) := hs
      clear hc hs
      by_cases h2k : 2000 < s.length
      · have HF : Hid (fitsB l = false) := by
          unfold Hid
          cases e : fitsB l
          · rfl
          · have := fits_mem l e s (List.mem_of_getElem? HS.out)
            omega
        go_wp2_with fail
        go_ret
        exact ⟨by rw [HF.out]; rfl, rfl⟩
      · have HI2 : Hid (∀ j s, j < i + 1 → l[j]? = some s → s.length ≤ 2000) := fun j t hj ht => by
          rcases Nat.lt_or_ge j i with h1 | h1
          · exact HI.out j t h1 ht
          · rw [show j = i by omega, HS.out] at ht
            cases ht
            omega
        go_wp2_with fail
        exact ⟨⟨i + 1, by simp, by omega, HI2.out, trivial⟩, by simp [intOf]; omega⟩
    · obtain rfl : i = l.length := by omega
      have HF : Hid (fitsB l = true) := (fitsB_iff l).2 ⟨by omega, fun s hs => by
        obtain ⟨j, hj⟩ := List.mem_iff_getElem?.1 hs
        exact HI.out j s (List.getElem?_eq_some_iff.1 hj).1 hj⟩
      go_wp2_with fail
      go_ret
      exact ⟨by rw [HF.out]; rfl, rfl⟩
theorem rfits_any (v : Value) (l : List (List UInt8)) (w : World) (h : Tx w v l) (hl : ∀ s ∈ l, s.length < 4294967296) (hn : l.length < 4294967296) :
    Calls Tryz.prog 31 #[v] w fun e w' => RGot (bound l) e w' ∧ w' = w := by
  have HF : Hid (Calls Tryz.prog 28 #[v] w fun e w' => e = .returned (.bool (fitsB l)) ∧ w' = w) := rFits_any v l w h hl hn
  have HT : Hid (Tx w v l) := h
  obtain ⟨ad, cap, rfl⟩ := h.form
  clear h hl
  cases hf : fitsB l
  · rw [bound_no hf]
    rw [hf] at HF
    clear hf
    go_enter Tryz.func31, Tryz.ntmps31
    go_wp2_with fail
    refine Calls.mono HF.out ?_
    rintro e w1 ⟨rfl, hw⟩
    subst hw
    go_wp2_with fail
    go_ret2
    exact ⟨RGot.none _, rfl⟩
  · rw [bound_yes hf]
    rw [hf] at HF
    clear hf
    go_enter Tryz.func31, Tryz.ntmps31
    go_wp2_with fail
    refine Calls.mono HF.out ?_
    rintro e w1 ⟨rfl, hw⟩
    subst hw
    go_wp2_with fail
    go_ret2
    exact ⟨RGot.some HT.out, rfl⟩
theorem gat_length {α : Type} (f : α → List (List UInt8)) (l : List α) (k : Nat) (M : Nat) (h : ∀ x ∈ l, (f x).length ≤ M) : (gat f l k).length ≤ k * M := by
  induction k with
  | zero => rw [gat_zero]; simp
  | succ k ih =>
    cases hx : l[k]? with
    | none =>
      unfold gat at ih ⊢
      rw [List.take_add_one, hx]
      simp only [Option.toList, List.append_nil]
      have h9 : (k + 1) * M = k * M + M := Nat.succ_mul k M
      omega
    | some x =>
      rw [gat_succ f l k x hx, List.length_append]
      have := h x (List.mem_of_getElem? hx)
      have h9 : (k + 1) * M = k * M + M := Nat.succ_mul k M
      omega
theorem gat_mem {α : Type} (f : α → List (List UInt8)) (l : List α) (k : Nat) {P : List UInt8 → Prop} (h : ∀ x ∈ l, ∀ s ∈ f x, P s) : ∀ s ∈ gat f l k, P s := by
  intro s hs
  unfold gat at hs
  obtain ⟨L, hL, hsL⟩ := List.mem_flatten.1 hs
  obtain ⟨x, hx, rfl⟩ := List.mem_map.1 hL
  exact h x (List.mem_of_mem_take hx) s hsL
set_option maxRecDepth 100000 in
set_option maxHeartbeats 2000000 in
theorem rcat_any (v : Value) (ls : List (List (List UInt8))) (w : World) (h : Tss w v ls) (hls : ls.length ≤ 60000) (hz : ∀ l ∈ ls, l.length ≤ 60000) (hzz : ∀ l ∈ ls, ∀ s ∈ l, s.length < 4294967296) :
    Calls Tryz.prog 7 #[v] w fun e w' => RGot (bound (gatAll id ls)) e w' ∧ Below w.heap.size w w' := by
  have HT : Hid (∀ W', Below w.heap.size w W' → Tss W' v ls) := fun W' hb => h.below hb (Nat.le_refl _)
  have HZ : Hid (∀ l ∈ ls, l.length ≤ 60000) := hz
  have HZZ : Hid (∀ l ∈ ls, ∀ s ∈ l, s.length < 4294967296) := hzz
  obtain ⟨g, o, ad, cap, rfl, _⟩ := h
  clear hz hzz
  go_enter Tryz.func7, Tryz.ntmps7
  go_wp2_with fail
  go_loopw [4, 5] (fun v4 v5 wr => ∃ (i : Nat) (O : List (List UInt8)), v5 = .int .i64 i ∧ i ≤ ls.length ∧ O.length ≤ 100 ∧ Hid (O = gat id ls i) ∧ Hid (wr.ownsRow w.heap.size 9 1 v4 O.length (txV O)) ∧ Hid (Below w.heap.size w wr)) (fun _ v5 _ => ls.length - (intOf v5).toNat)
  case atStart => exact ⟨0, [], rfl, Nat.zero_le _, by simp, (gat_zero _ _).symm, ⟨rfl, .inl ⟨rfl, rfl⟩⟩, Below.refl _ _⟩
  case round =>
    obtain ⟨i, O, rfl, hi, hO, HO, HW, HB⟩ := hrel
    obtain ⟨ad4, cap4, rfl⟩ := owns_slice HW.out
    by_cases hil : i < ls.length
    · obtain ⟨x, hx⟩ : ∃ x, ls[i]? = some x := ⟨_, List.getElem?_eq_getElem hil⟩
      obtain ⟨g', o', ad', cap', hv, _, h3, h4⟩ := HT.out _ HB.out
      cases hv
      obtain ⟨vl, c1, tx⟩ := h4 i x hx
      have had := (h3 (fun e => by rw [e] at hil; simp at hil)).1
      subst had
      obtain ⟨adx, capx, rfl⟩ := tx.form
      have HS : Hid (SrcT wr (.slice adx x.length capx) x) := tx.src
      have hxl := HZ.out x (List.mem_of_getElem? hx)
      have HX : Hid (ls[i]? = some x) := hx
      have HBS : Hid (w.heap.size ≤ wr.heap.size) := HB.out.size
      obtain ⟨O2, hO2⟩ : ∃ O2, O2 = O ++ x := ⟨_, rfl⟩
      have HO2 : Hid (O2 = gat id ls (i + 1)) := by
        unfold Hid
        rw [hO2, gat_succ id ls i x HX.out, HO.out]
        rfl
      have hO2l : O2.length ≤ 60100 := by rw [hO2, List.length_append]; omega
      have HEQ : Hid (O ++ x = O2) := hO2.symm
      clear hx h3 h4 tx hO2
      by_cases hbig : 100 < O2.length
      · have HN : Hid (bound (gatAll id ls) = none) := bound_no (gat_fits id ls (i + 1) (by rw [← HO2.out]; exact fits_many hbig))
        go_wp2_with (at_builtin; refine wpList_srcT rfl _ _ rfl (v := .slice ad4 O.length cap4) (xv := .slice adx x.length capx) (O := O) (L := x) rfl rfl HW.out HS.out (by omega) HBS.out ?_; intro v' w' ho hg; rw [HEQ.out] at ho; obtain ⟨ad', cap', rfl⟩ := owns_slice ho; have HW2 : Hid (w'.ownsRow w.heap.size 9 1 (.slice ad' O2.length cap') O2.length (txV O2)) := ho; have HB2 : Hid (Below w.heap.size w w') := grown_own HBS.out HB.out HW.out hg; clear ho hg)
        go_ret2
        exact ⟨by rw [HN.out]; exact RGot.none _, HB2.out⟩
      · go_wp2_with (at_builtin; refine wpList_srcT rfl _ _ rfl (v := .slice ad4 O.length cap4) (xv := .slice adx x.length capx) (O := O) (L := x) rfl rfl HW.out HS.out (by omega) HBS.out ?_; intro v' w' ho hg; rw [HEQ.out] at ho; obtain ⟨ad', cap', rfl⟩ := owns_slice ho; have HW2 : Hid (w'.ownsRow w.heap.size 9 1 (.slice ad' O2.length cap') O2.length (txV O2)) := ho; have HB2 : Hid (Below w.heap.size w w') := grown_own HBS.out HB.out HW.out hg; clear ho hg)
        exact ⟨⟨i + 1, O2, by simp, by omega, by omega, HO2.out, HW2.out, HB2.out⟩, by simp [intOf]; omega⟩
    · obtain rfl : i = ls.length := by omega
      have HR : Hid (bound (gatAll id ls) = bound O) := by unfold Hid; rw [HO.out, gat_all]
      have HOZ : Hid (∀ s ∈ O, s.length < 4294967296) := by
        unfold Hid
        rw [HO.out]
        exact gat_mem id ls _ (P := fun s => s.length < 4294967296) HZZ.out
      go_wp2_with fail
      refine (rfits_any _ O _ (Tx.owned HW.out) HOZ.out (by omega)).mono ?_
      rintro e w3 ⟨⟨ad3, cap3, rfl, t3⟩, hw3⟩
      subst hw3
      have H3 : Hid (RGot (bound O) (.returned (.tuple #[.slice ad3 (resL (bound O)).length cap3, .bool (bound O).isSome])) w3) := ⟨_, _, rfl, t3⟩
      clear t3
      generalize (resL (bound O)).length = n3 at *
      generalize (bound O).isSome = b3 at *
      go_wp2_with fail
      go_ret2
      exact ⟨by rw [HR.out]; exact H3.out, HB.out⟩
end Go.Proofs.YtdajacodfnidfaaGreatDoor
/-! The document's own answers: SplitAll, Each. -/
namespace Go.Proofs.YtdajacodfnidfaaGreatDoor
open Go.RowKit Go.Shelf

theorem splitR_item : ∀ (cs : List (List UInt8 × Lt)) (acc t : List UInt8), t ∈ splitR acc cs → t.length ≤ acc.length + (cs.flatMap Prod.fst).length
  | [], acc, t, h => by
    simp only [splitR, one] at h
    split at h
    · simp at h
    · simp at h
      subst h
      simp
  | (raw, x) :: cs, acc, t, h => by
    rw [List.flatMap_cons, List.length_append]
    simp only [splitR] at h
    split at h
    · rcases List.mem_append.1 h with h | h
      · unfold one at h
        split at h
        · simp at h
        · simp at h
          subst h
          omega
      · have := splitR_item cs [] t h
        rw [List.length_nil, Nat.zero_add] at this
        omega
    · have := splitR_item cs (acc ++ raw) t h
      rw [List.length_append] at this
      simp only at this ⊢
      omega
theorem splitL_item (l t : List UInt8) (h : t ∈ splitL l) : t.length ≤ l.length := by
  have := splitR_item (chunks l) [] t h
  rw [chunks_flat] at this
  simpa using this
set_option maxRecDepth 100000 in
set_option maxHeartbeats 2000000 in
theorem rsplitAll_any (v : Value) (l : List (List UInt8)) (w : World) (h : Tx w v l) (hn : l.length ≤ 60000) (hz : ∀ s ∈ l, s.length ≤ 60000) :
    Calls Tryz.prog 12 #[v] w fun e w' => RGot (bound (gatAll splitL l)) e w' ∧ Below w.heap.size w w' := by
  have HT : Hid (∀ W', Below w.heap.size w W' → Tx W' v l) := fun W' hb => h.below hb (Nat.le_refl _)
  have HZ : Hid (∀ s ∈ l, s.length ≤ 60000) := hz
  have HM : Hid (∀ s ∈ l, ∀ t ∈ splitL s, t.length < 4294967296) := fun s hs t ht => by
    have h1 := splitL_item s t ht
    have h2 := hz s hs
    omega
  obtain ⟨ad, cap, rfl⟩ := h.form
  clear hz h
  go_enter Tryz.func12, Tryz.ntmps12
  go_wp2_with fail
  go_loopw [4, 5] (fun v4 v5 wr => ∃ (i : Nat) (O : List (List UInt8)), v5 = .int .i64 i ∧ i ≤ l.length ∧ O.length ≤ 100 ∧ Hid (O = gat splitL l i) ∧ Hid (wr.ownsRow w.heap.size 9 1 v4 O.length (txV O)) ∧ Hid (Below w.heap.size w wr)) (fun _ v5 _ => l.length - (intOf v5).toNat)
  case atStart => exact ⟨0, [], rfl, Nat.zero_le _, by simp, (gat_zero _ _).symm, ⟨rfl, .inl ⟨rfl, rfl⟩⟩, Below.refl _ _⟩
  case round =>
    obtain ⟨i, O, rfl, hi, hO, HO, HW, HB⟩ := hrel
    obtain ⟨ad4, cap4, rfl⟩ := owns_slice HW.out
    by_cases hil : i < l.length
    · obtain ⟨x, hx⟩ : ∃ x, l[i]? = some x := ⟨_, List.getElem?_eq_getElem hil⟩
      obtain ⟨g, o, cap', hv, _, _, hc⟩ := (HT.out _ HB.out).inRow (fun e => by rw [e] at hil; simp at hil)
      cases hv
      have e1 := hc i x hx
      have hxl := HZ.out x (List.mem_of_getElem? hx)
      have HX : Hid (l[i]? = some x) := hx
      obtain ⟨X, hX⟩ : ∃ X, splitL x = X := ⟨_, rfl⟩
      have hXl : X.length ≤ 60001 := by rw [← hX]; have := splitL_length x; omega
      have HC : Hid (Calls Tryz.prog 39 #[.string ⟨x.toArray⟩] wr fun e w' => ∃ v, e = .returned v ∧ w'.ownsRow wr.heap.size 9 1 v X.length (txV X) ∧ Below wr.heap.size wr w') := by
        rw [← hX]
        exact rsplit_any ⟨x.toArray⟩ (by show x.toArray.size < _; simp; omega) wr
      obtain ⟨O2, hO2⟩ : ∃ O2, O2 = O ++ X := ⟨_, rfl⟩
      have HO2 : Hid (O2 = gat splitL l (i + 1)) := by
        unfold Hid
        rw [hO2, gat_succ splitL l i x HX.out, HO.out, hX]
      have hO2l : O2.length ≤ 60101 := by rw [hO2, List.length_append]; omega
      have HEQ : Hid (O ++ X = O2) := hO2.symm
      clear hx hc hO2 hX
      go_wp2_with fail
      refine Calls.mono HC.out ?_
      rintro e w2 ⟨vx, rfl, hox, hb2⟩
      obtain ⟨adx, capx, rfl⟩ := owns_slice hox
      have HS : Hid (SrcT w2 (.slice adx X.length capx) X) := (Tx.owned hox).src
      have HW2' : Hid (w2.ownsRow w.heap.size 9 1 (.slice ad4 O.length cap4) O.length (txV O)) := owns_after HW.out hb2
      have HB2' : Hid (Below w.heap.size w w2) := HB.out.trans (hb2.mono HB.out.size)
      have HBS : Hid (w.heap.size ≤ w2.heap.size) := HB2'.out.size
      clear hox hb2 e1
      by_cases hbig : 100 < O2.length
      · have HN : Hid (bound (gatAll splitL l) = none) := bound_no (gat_fits splitL l (i + 1) (by rw [← HO2.out]; exact fits_many hbig))
        go_wp2_with (at_builtin; refine wpList_srcT rfl _ _ rfl (v := .slice ad4 O.length cap4) (xv := .slice adx X.length capx) (O := O) (L := X) rfl rfl HW2'.out HS.out (by omega) HBS.out ?_; intro v' w' ho hg; rw [HEQ.out] at ho; obtain ⟨ad', cap', rfl⟩ := owns_slice ho; have HW2 : Hid (w'.ownsRow w.heap.size 9 1 (.slice ad' O2.length cap') O2.length (txV O2)) := ho; have HB2 : Hid (Below w.heap.size w w') := grown_own HBS.out HB2'.out HW2'.out hg; clear ho hg)
        go_ret2
        exact ⟨by rw [HN.out]; exact RGot.none _, HB2.out⟩
      · go_wp2_with (at_builtin; refine wpList_srcT rfl _ _ rfl (v := .slice ad4 O.length cap4) (xv := .slice adx X.length capx) (O := O) (L := X) rfl rfl HW2'.out HS.out (by omega) HBS.out ?_; intro v' w' ho hg; rw [HEQ.out] at ho; obtain ⟨ad', cap', rfl⟩ := owns_slice ho; have HW2 : Hid (w'.ownsRow w.heap.size 9 1 (.slice ad' O2.length cap') O2.length (txV O2)) := ho; have HB2 : Hid (Below w.heap.size w w') := grown_own HBS.out HB2'.out HW2'.out hg; clear ho hg)
        exact ⟨⟨i + 1, O2, by simp, by omega, by omega, HO2.out, HW2.out, HB2.out⟩, by simp [intOf]; omega⟩
    · obtain rfl : i = l.length := by omega
      have HR : Hid (bound (gatAll splitL l) = bound O) := by unfold Hid; rw [HO.out, gat_all]
      have HOZ : Hid (∀ s ∈ O, s.length < 4294967296) := by
        unfold Hid
        rw [HO.out]
        exact gat_mem splitL l _ (P := fun s => s.length < 4294967296) HM.out
      go_wp2_with fail
      refine (rfits_any _ O _ (Tx.owned HW.out) HOZ.out (by omega)).mono ?_
      rintro e w3 ⟨⟨ad3, cap3, rfl, t3⟩, hw3⟩
      subst hw3
      have H3 : Hid (RGot (bound O) (.returned (.tuple #[.slice ad3 (resL (bound O)).length cap3, .bool (bound O).isSome])) w3) := ⟨_, _, rfl, t3⟩
      clear t3
      generalize (resL (bound O)).length = n3 at *
      generalize (bound O).isSome = b3 at *
      go_wp2_with fail
      go_ret2
      exact ⟨by rw [HR.out]; exact H3.out, HB.out⟩
set_option maxRecDepth 100000 in
set_option maxHeartbeats 2000000 in
theorem reach_esc (v : Value) (l : List (List UInt8)) (w : World) (h : Tx w v l) (hn : l.length ≤ 60000) (hz : ∀ s ∈ l, s.length ≤ 60000) :
    Calls Tryz.prog 14 #[v, .bool true] w fun e w' => RGot (bound (l.map escL)) e w' ∧ Below w.heap.size w w' := by
  have HT : Hid (∀ W', Below w.heap.size w W' → Tx W' v l) := fun W' hb => h.below hb (Nat.le_refl _)
  have HZ : Hid (∀ s ∈ l, s.length ≤ 60000) := hz
  obtain ⟨ad, cap, rfl⟩ := h.form
  clear hz h
  by_cases h100 : 100 < l.length
  · have HN : Hid (bound (l.map escL) = none) := bound_no (fits_many (by rw [List.length_map]; exact h100))
    go_enter Tryz.func14, Tryz.ntmps14
    go_wp2_with fail
    go_ret2
    exact ⟨by rw [HN.out]; exact RGot.none _, Below.refl _ _⟩
  go_enter Tryz.func14, Tryz.ntmps14
  go_wp2_with fail
  go_loopw [6, 7] (fun v6 v7 wr => ∃ (i : Nat) (O : List (List UInt8)), v7 = .int .i64 i ∧ i ≤ l.length ∧ O.length ≤ 100 ∧ Hid (O = (l.take i).map escL) ∧ Hid (wr.ownsRow w.heap.size 9 1 v6 O.length (txV O)) ∧ Hid (Below w.heap.size w wr)) (fun _ v7 _ => l.length - (intOf v7).toNat)
  case atStart => exact ⟨0, [], rfl, Nat.zero_le _, by simp, by simp [Hid], ⟨rfl, .inl ⟨rfl, rfl⟩⟩, Below.refl _ _⟩
  case round =>
    obtain ⟨i, O, rfl, hi, hO, HO, HW, HB⟩ := hrel
    obtain ⟨ad4, cap4, rfl⟩ := owns_slice HW.out
    by_cases hil : i < l.length
    · obtain ⟨x, hx⟩ : ∃ x, l[i]? = some x := ⟨_, List.getElem?_eq_getElem hil⟩
      obtain ⟨g, o, cap', hv, _, _, hc⟩ := (HT.out _ HB.out).inRow (fun e => by rw [e] at hil; simp at hil)
      cases hv
      have e1 := hc i x hx
      have hxl := HZ.out x (List.mem_of_getElem? hx)
      obtain ⟨y, hy⟩ : ∃ y, escL x = y := ⟨_, rfl⟩
      have HC : Hid (Calls Tryz.prog 42 #[.string ⟨x.toArray⟩] wr fun e w' => e = .returned (.string ⟨y.toArray⟩) ∧ Below wr.heap.size wr w') := by
        rw [← hy]
        exact rescape_any ⟨x.toArray⟩ (by show x.toArray.size < _; simp; omega) wr
      obtain ⟨O2, hO2⟩ : ∃ O2, O2 = O ++ [y] := ⟨_, rfl⟩
      have HO2 : Hid (O2 = (l.take (i + 1)).map escL) := by
        unfold Hid
        rw [hO2, List.take_add_one, hx, List.map_append, HO.out, ← hy]
        rfl
      have hO2l : O2.length ≤ 100 := by
        have h3 := congrArg List.length HO2.out
        rw [List.length_map, List.length_take] at h3
        omega
      have HEQ : Hid (O ++ [y] = O2) := hO2.symm
      clear hx hc hO2 hy
      go_wp2_with fail
      refine Calls.mono HC.out ?_
      rintro e w2 ⟨rfl, hb2⟩
      have HS : Hid (SrcT (w2.alloc (.cells #[.string ⟨y.toArray⟩] 9)) (.slice (some ⟨w2.heap.size, 0, none⟩) 1 1) [y]) := (Tx.one w2 y).src
      have hb3 := hb2.alloc hb2.size (.cells #[.string ⟨y.toArray⟩] 9)
      have HW2' : Hid ((w2.alloc (.cells #[.string ⟨y.toArray⟩] 9)).ownsRow w.heap.size 9 1 (.slice ad4 O.length cap4) O.length (txV O)) := owns_after HW.out hb3
      have HB2' : Hid (Below w.heap.size w (w2.alloc (.cells #[.string ⟨y.toArray⟩] 9))) := HB.out.trans (hb3.mono HB.out.size)
      have HBS : Hid (w.heap.size ≤ (w2.alloc (.cells #[.string ⟨y.toArray⟩] 9)).heap.size) := HB2'.out.size
      clear hb2 hb3 e1
      go_wp2_with (at_builtin; refine wpList_srcT rfl _ _ rfl (v := .slice ad4 O.length cap4) (xv := .slice (some ⟨w2.heap.size, 0, none⟩) 1 1) (O := O) (L := [y]) rfl rfl HW2'.out HS.out (by simp; omega) HBS.out ?_; intro v' w' ho hg; rw [HEQ.out] at ho; obtain ⟨ad', cap', rfl⟩ := owns_slice ho; have HW2 : Hid (w'.ownsRow w.heap.size 9 1 (.slice ad' O2.length cap') O2.length (txV O2)) := ho; have HB2 : Hid (Below w.heap.size w w') := grown_own HBS.out HB2'.out HW2'.out hg; clear ho hg)
      exact ⟨⟨i + 1, O2, by simp, by omega, by omega, HO2.out, HW2.out, HB2.out⟩, by simp [intOf]; omega⟩
    · obtain rfl : i = l.length := by omega
      have HR : Hid (bound (l.map escL) = bound O) := by unfold Hid; rw [HO.out, List.take_length]
      have HOZ : Hid (∀ s ∈ O, s.length < 4294967296) := by
        unfold Hid
        rw [HO.out]
        intro s hs
        obtain ⟨t, ht, rfl⟩ := List.mem_map.1 hs
        have h1 := HZ.out t (List.mem_of_mem_take ht)
        have h2 : (escL t).length ≤ 2 * t.length := escL_len t
        omega
      go_wp2_with fail
      refine (rfits_any _ O _ (Tx.owned HW.out) HOZ.out (by omega)).mono ?_
      rintro e w3 ⟨⟨ad3, cap3, rfl, t3⟩, hw3⟩
      subst hw3
      have H3 : Hid (RGot (bound O) (.returned (.tuple #[.slice ad3 (resL (bound O)).length cap3, .bool (bound O).isSome])) w3) := ⟨_, _, rfl, t3⟩
      clear t3
      generalize (resL (bound O)).length = n3 at *
      generalize (bound O).isSome = b3 at *
      go_wp2_with fail
      go_ret2
      exact ⟨by rw [HR.out]; exact H3.out, HB.out⟩
set_option maxRecDepth 100000 in
set_option maxHeartbeats 2000000 in
theorem reach_plain (v : Value) (l : List (List UInt8)) (w : World) (h : Tx w v l) (hn : l.length ≤ 60000) (hz : ∀ s ∈ l, s.length ≤ 60000) :
    Calls Tryz.prog 14 #[v, .bool false] w fun e w' => RGot (bound (l.map plainL)) e w' ∧ Below w.heap.size w w' := by
  have HT : Hid (∀ W', Below w.heap.size w W' → Tx W' v l) := fun W' hb => h.below hb (Nat.le_refl _)
  have HZ : Hid (∀ s ∈ l, s.length ≤ 60000) := hz
  obtain ⟨ad, cap, rfl⟩ := h.form
  clear hz h
  by_cases h100 : 100 < l.length
  · have HN : Hid (bound (l.map plainL) = none) := bound_no (fits_many (by rw [List.length_map]; exact h100))
    go_enter Tryz.func14, Tryz.ntmps14
    go_wp2_with fail
    go_ret2
    exact ⟨by rw [HN.out]; exact RGot.none _, Below.refl _ _⟩
  go_enter Tryz.func14, Tryz.ntmps14
  go_wp2_with fail
  go_loopw [6, 7] (fun v6 v7 wr => ∃ (i : Nat) (O : List (List UInt8)), v7 = .int .i64 i ∧ i ≤ l.length ∧ O.length ≤ 100 ∧ Hid (O = (l.take i).map plainL) ∧ Hid (wr.ownsRow w.heap.size 9 1 v6 O.length (txV O)) ∧ Hid (Below w.heap.size w wr)) (fun _ v7 _ => l.length - (intOf v7).toNat)
  case atStart => exact ⟨0, [], rfl, Nat.zero_le _, by simp, by simp [Hid], ⟨rfl, .inl ⟨rfl, rfl⟩⟩, Below.refl _ _⟩
  case round =>
    obtain ⟨i, O, rfl, hi, hO, HO, HW, HB⟩ := hrel
    obtain ⟨ad4, cap4, rfl⟩ := owns_slice HW.out
    by_cases hil : i < l.length
    · obtain ⟨x, hx⟩ : ∃ x, l[i]? = some x := ⟨_, List.getElem?_eq_getElem hil⟩
      obtain ⟨g, o, cap', hv, _, _, hc⟩ := (HT.out _ HB.out).inRow (fun e => by rw [e] at hil; simp at hil)
      cases hv
      have e1 := hc i x hx
      have hxl := HZ.out x (List.mem_of_getElem? hx)
      obtain ⟨y, hy⟩ : ∃ y, plainL x = y := ⟨_, rfl⟩
      have HC : Hid (Calls Tryz.prog 43 #[.string ⟨x.toArray⟩] wr fun e w' => e = .returned (.string ⟨y.toArray⟩) ∧ Below wr.heap.size wr w') := by
        rw [← hy]
        exact rplain_any ⟨x.toArray⟩ (by show x.toArray.size < _; simp; omega) wr
      obtain ⟨O2, hO2⟩ : ∃ O2, O2 = O ++ [y] := ⟨_, rfl⟩
      have HO2 : Hid (O2 = (l.take (i + 1)).map plainL) := by
        unfold Hid
        rw [hO2, List.take_add_one, hx, List.map_append, HO.out, ← hy]
        rfl
      have hO2l : O2.length ≤ 100 := by
        have h3 := congrArg List.length HO2.out
        rw [List.length_map, List.length_take] at h3
        omega
      have HEQ : Hid (O ++ [y] = O2) := hO2.symm
      clear hx hc hO2 hy
      go_wp2_with fail
      refine Calls.mono HC.out ?_
      rintro e w2 ⟨rfl, hb2⟩
      have HS : Hid (SrcT (w2.alloc (.cells #[.string ⟨y.toArray⟩] 9)) (.slice (some ⟨w2.heap.size, 0, none⟩) 1 1) [y]) := (Tx.one w2 y).src
      have hb3 := hb2.alloc hb2.size (.cells #[.string ⟨y.toArray⟩] 9)
      have HW2' : Hid ((w2.alloc (.cells #[.string ⟨y.toArray⟩] 9)).ownsRow w.heap.size 9 1 (.slice ad4 O.length cap4) O.length (txV O)) := owns_after HW.out hb3
      have HB2' : Hid (Below w.heap.size w (w2.alloc (.cells #[.string ⟨y.toArray⟩] 9))) := HB.out.trans (hb3.mono HB.out.size)
      have HBS : Hid (w.heap.size ≤ (w2.alloc (.cells #[.string ⟨y.toArray⟩] 9)).heap.size) := HB2'.out.size
      clear hb2 hb3 e1
      go_wp2_with (at_builtin; refine wpList_srcT rfl _ _ rfl (v := .slice ad4 O.length cap4) (xv := .slice (some ⟨w2.heap.size, 0, none⟩) 1 1) (O := O) (L := [y]) rfl rfl HW2'.out HS.out (by simp; omega) HBS.out ?_; intro v' w' ho hg; rw [HEQ.out] at ho; obtain ⟨ad', cap', rfl⟩ := owns_slice ho; have HW2 : Hid (w'.ownsRow w.heap.size 9 1 (.slice ad' O2.length cap') O2.length (txV O2)) := ho; have HB2 : Hid (Below w.heap.size w w') := grown_own HBS.out HB2'.out HW2'.out hg; clear ho hg)
      exact ⟨⟨i + 1, O2, by simp, by omega, by omega, HO2.out, HW2.out, HB2.out⟩, by simp [intOf]; omega⟩
    · obtain rfl : i = l.length := by omega
      have HR : Hid (bound (l.map plainL) = bound O) := by unfold Hid; rw [HO.out, List.take_length]
      have HOZ : Hid (∀ s ∈ O, s.length < 4294967296) := by
        unfold Hid
        rw [HO.out]
        intro s hs
        obtain ⟨t, ht, rfl⟩ := List.mem_map.1 hs
        have h1 := HZ.out t (List.mem_of_mem_take ht)
        have h2 : (plainL t).length ≤ 2 * t.length := by
          have h3 := letts_length_le t
          unfold plainL
          rw [List.length_map]
          omega
        omega
      go_wp2_with fail
      refine (rfits_any _ O _ (Tx.owned HW.out) HOZ.out (by omega)).mono ?_
      rintro e w3 ⟨⟨ad3, cap3, rfl, t3⟩, hw3⟩
      subst hw3
      have H3 : Hid (RGot (bound O) (.returned (.tuple #[.slice ad3 (resL (bound O)).length cap3, .bool (bound O).isSome])) w3) := ⟨_, _, rfl, t3⟩
      clear t3
      generalize (resL (bound O)).length = n3 at *
      generalize (bound O).isSome = b3 at *
      go_wp2_with fail
      go_ret2
      exact ⟨by rw [HR.out]; exact H3.out, HB.out⟩
end Go.Proofs.YtdajacodfnidfaaGreatDoor
namespace Go.Proofs.YtdajacodfnidfaaGreatDoor
open Go.RowKit Go.Shelf

theorem join_snoc : ∀ (A : List (List UInt8)) (x : List UInt8), A ≠ [] → Lib.join (A ++ [x]) [32] = (Lib.join A [32] ++ [32]) ++ x
  | [], _, h => absurd rfl h
  | [a], x, _ => by simp [Lib.join, List.intercalate_cons_cons]
  | a :: b :: A, x, _ => by
    have ih := join_snoc (b :: A) x (by simp)
    unfold Lib.join at *
    rw [List.cons_append, List.cons_append, List.intercalate_cons_cons, ← List.cons_append, ih, List.intercalate_cons_cons]
    simp
theorem str_app2 (x y : List UInt8) : (⟨x.toArray⟩ : ByteArray) ++ ⟨y.toArray⟩ = ⟨(x ++ y).toArray⟩ := by
  apply ByteArray.ext
  rw [ByteArray.data_append]
  simp
theorem flat_no (l : List (List UInt8)) (i : Nat) (hi : i < l.length) (h : 2000 < (Lib.join (l.take (i + 1)) [32]).length) : flatB l = none := by
  unfold flatB
  rw [if_neg]
  have h1 := flatSum_le l (i + 1)
  cases hl : l.take (i + 1) with
  | nil =>
    have := congrArg List.length hl
    rw [List.length_take, List.length_nil] at this
    omega
  | cons s r =>
    have h2 := join_length1 s r
    rw [hl] at h h1
    omega
theorem flat_yes (l : List (List UInt8)) (h : (Lib.join l [32]).length ≤ 2000) : flatB l = some [Lib.join l [32]] := by
  unfold flatB
  rw [if_pos]
  cases l with
  | nil => decide
  | cons s r =>
    have h2 := join_length1 s r
    omega
set_option maxRecDepth 100000 in
set_option maxHeartbeats 2000000 in
theorem rflat_any (v : Value) (l : List (List UInt8)) (w : World) (h : Tx w v l) (hn : l.length ≤ 60000) (hz : ∀ s ∈ l, s.length ≤ 60000) :
    Calls Tryz.prog 17 #[v] w fun e w' => RGot (flatB l) e w' ∧ Below w.heap.size w w' := by
  have HT : Hid (Tx w v l) := h
  have HZ : Hid (∀ s ∈ l, s.length ≤ 60000) := hz
  obtain ⟨ad, cap, rfl⟩ := h.form
  clear hz h
  go_enter Tryz.func17, Tryz.ntmps17
  go_wp2_with fail
  go_loopw [4, 5] (fun v4 v5 wr => ∃ (i : Nat) (S : List UInt8), v4 = .string ⟨S.toArray⟩ ∧ v5 = .int .i64 i ∧ i ≤ l.length ∧ S.length ≤ 2000 ∧ Hid (S = Lib.join (l.take i) [32]) ∧ wr = w) (fun _ v5 _ => l.length - (intOf v5).toNat)
  case atStart => exact ⟨0, [], rfl, rfl, Nat.zero_le _, by simp, by simp [Hid, Lib.join], rfl⟩
  case round =>
    obtain ⟨i, S, rfl, rfl, hi, hS, HS, rfl⟩ := hrel
    by_cases hil : i < l.length
    · obtain ⟨x, hx⟩ : ∃ x, l[i]? = some x := ⟨_, List.getElem?_eq_getElem hil⟩
      obtain ⟨g, o, cap', hv, _, _, hc⟩ := HT.out.inRow (fun e => by rw [e] at hil; simp at hil)
      cases hv
      have e1 := hc i x hx
      have hxl := HZ.out x (List.mem_of_getElem? hx)
      have hss : (⟨S.toArray⟩ : ByteArray).size = S.length := str_size' S
      have hsx : (⟨x.toArray⟩ : ByteArray).size = x.length := str_size' x
      by_cases hi0 : i = 0
      · subst hi0
        have hS0 : S = [] := by rw [HS.out]; rfl
        subst hS0
        have HJ : Hid (Lib.join (l.take (0 + 1)) [32] = x) := by
          unfold Hid
          rw [List.take_add_one, hx]
          simp [Lib.join]
        simp only [Nat.add_zero] at e1
        clear hx hc hss
        by_cases hbig : 2000 < x.length
        · have HN : Hid (flatB l = none) := flat_no l 0 hil (by rw [HJ.out]; exact hbig)
          go_wp2_with fail
          go_ret2
          exact ⟨by rw [HN.out]; exact RGot.none _, Below.refl _ _⟩
        · go_wp2_with fail
          refine ⟨⟨1, x, ?_, by simp, by omega, by omega, HJ.out.symm, trivial⟩, by simp [intOf]; omega⟩
          exact congrArg Value.string (str_app2 [] x)
      · have hi1 : (0 : Int) < (i : Int) := by omega
        have HJ : Hid (Lib.join (l.take (i + 1)) [32] = (S ++ [32]) ++ x) := by
          unfold Hid
          rw [List.take_add_one, hx, HS.out]
          refine join_snoc _ _ (fun e => ?_)
          have := congrArg List.length e
          rw [List.length_take, List.length_nil] at this
          omega
        have a1 := str_app2 S [32]
        have a2 := str_app2 (S ++ [32]) x
        have hs1 : (⟨(S ++ [32]).toArray⟩ : ByteArray).size = S.length + 1 := by rw [str_size']; simp
        obtain ⟨T, hT⟩ : ∃ T, T = (S ++ [32]) ++ x := ⟨_, rfl⟩
        have hTl : T.length = S.length + 1 + x.length := by rw [hT]; simp; omega
        clear hx hc
        by_cases hbig : 2000 < S.length + 1 + x.length
        · have HN : Hid (flatB l = none) := flat_no l i hil (by rw [HJ.out, ← hT, hTl]; exact hbig)
          go_wp2_with fail
          go_ret2
          exact ⟨by rw [HN.out]; exact RGot.none _, Below.refl _ _⟩
        · go_wp2_with fail
          refine ⟨⟨i + 1, T, ?_, by simp, by omega, by omega, by unfold Hid; rw [HJ.out, hT], trivial⟩, by simp [intOf]; omega⟩
          rw [hT]
          simp
    · obtain rfl : i = l.length := by omega
      rw [List.take_length] at HS
      have HR : Hid (flatB l = bound [S]) := by
        unfold Hid
        rw [flat_yes l (by rw [← HS.out]; exact hS), ← HS.out, bound_yes]
        rw [fitsB_iff]
        exact ⟨by simp, fun s hs => by simp at hs; subst hs; exact hS⟩
      have HTO : Hid (Tx (wr.alloc (.cells #[.string ⟨S.toArray⟩] 9)) (.slice (some ⟨wr.heap.size, 0, none⟩) 1 1) [S]) := Tx.one wr S
      have HB : Hid (Below wr.heap.size wr (wr.alloc (.cells #[.string ⟨S.toArray⟩] 9))) := below_new wr _
      go_wp2_with fail
      refine (rfits_any _ [S] _ HTO.out (fun s hs => by simp at hs; subst hs; omega) (by simp)).mono ?_
      rintro e w3 ⟨⟨ad3, cap3, rfl, t3⟩, hw3⟩
      subst hw3
      have H3 : Hid (RGot (bound [S]) (.returned (.tuple #[.slice ad3 (resL (bound [S])).length cap3, .bool (bound [S]).isSome])) (wr.alloc (.cells #[.string ⟨S.toArray⟩] 9))) := ⟨_, _, rfl, t3⟩
      clear t3
      generalize (resL (bound [S])).length = n3 at *
      generalize (bound [S]).isSome = b3 at *
      go_wp2_with fail
      go_ret2
      exact ⟨by rw [HR.out]; exact H3.out, HB.out⟩
end Go.Proofs.YtdajacodfnidfaaGreatDoor
