/- The document's own answers: Glob. -/
import Derived.Test.YtdajacodfnidfaaGreatDoorRLA
import Derived.Test.YtdajacodfnidfaaGreatDoorRefU
import Derived.Test.YtdajacodfnidfaaGreatDoorLists5
namespace Go.Proofs.YtdajacodfnidfaaGreatDoor
open Go.RowKit Go.Shelf

theorem TxAt.src {W : World} {v : Value} {L : List (List UInt8)} (h : TxAt W v L) (hne : L ≠ []) : SrcT W v L := by
  obtain ⟨g, o, ad, cap, rfl, _, h2, h3⟩ := h
  obtain ⟨rfl, _⟩ := h2 hne
  refine .inr ⟨_, cap, rfl, fun j u hu => ?_⟩
  rw [Addr.add_lit]
  unfold txV at hu
  rw [List.getElem?_map] at hu
  cases hl : L[j]? with
  | none => rw [hl] at hu; simp at hu
  | some p =>
    rw [hl] at hu
    simp only [Option.map_some, Option.some.injEq] at hu
    subst hu
    exact h3 j p hl
theorem filesB_sub (d : Bool) (l : List Pc) (ns : List (List UInt8)) : ∀ s ∈ filesB d l ns, s ∈ ns := by
  intro s hs
  exact ((filesB_mem d l ns s).1 hs).1
theorem filesR_item (ns : List (List UInt8)) (x : List UInt8) (M : Nat) (hn : ∀ s ∈ ns, s.length ≤ M) (hx : x.length ≤ M) : ∀ s ∈ filesR ns x, s.length ≤ M := by
  intro s hs
  have hp : ((letts x).map Prod.fst).length ≤ M := by
    rw [List.length_map]
    exact Nat.le_trans (letts_length_le x) hx
  unfold filesR at hs
  split at hs
  · split at hs
    · simp only [List.mem_singleton] at hs
      subst hs
      exact hp
    · exact hn s (filesB_sub _ _ _ s hs)
  · simp only [List.mem_singleton] at hs
    subst hs
    exact hp
set_option maxRecDepth 100000 in
set_option maxHeartbeats 4000000 in
theorem rglob_any (v vn : Value) (l ns : List (List UInt8)) (w : World) (h : Tx w v l) (hn : Tx w vn ns) (hll : l.length ≤ 50000) (hnl : ns.length ≤ 50000) (hz : ∀ s ∈ l, s.length ≤ 60000) (hnz : ∀ s ∈ ns, s.length ≤ 60000) :
    Calls Tryz.prog 19 #[v, vn] w fun e w' => RGot (bound (gatAll (filesR ns) l)) e w' ∧ Below w.heap.size w w' := by
  have HT : Hid (∀ W', Below w.heap.size w W' → Tx W' v l) := fun W' hb => h.below hb (Nat.le_refl _)
  have HTN : Hid (∀ W', Below w.heap.size w W' → Tx W' vn ns) := fun W' hb => hn.below hb (Nat.le_refl _)
  have HZ : Hid (∀ s ∈ l, s.length ≤ 60000) := hz
  have HNZ : Hid (∀ s ∈ ns, s.length ≤ 60000) := hnz
  obtain ⟨ad, cap, rfl⟩ := h.form
  obtain ⟨adn, capn, rfl⟩ := hn.form
  clear hz h hn hnz
  go_enter Tryz.func19, Tryz.ntmps19
  go_wp2_with fail
  go_loopw [6, 7] (fun v6 v7 wr => ∃ (i : Nat) (O : List (List UInt8)), v7 = .int .i64 i ∧ i ≤ l.length ∧ O.length ≤ 100 ∧ Hid (O = gat (filesR ns) l i) ∧ Hid (wr.ownsRow w.heap.size 9 1 v6 O.length (txV O)) ∧ Hid (Below w.heap.size w wr)) (fun _ v7 _ => l.length - (intOf v7).toNat)
  case atStart => exact ⟨0, [], rfl, Nat.zero_le _, by simp, (gat_zero _ _).symm, ⟨rfl, .inl ⟨rfl, rfl⟩⟩, Below.refl _ _⟩
  case round =>
    obtain ⟨i, O, rfl, hi, hO, HO, HW, HB⟩ := hrel
    obtain ⟨ad4, cap4, rfl⟩ := owns_slice HW.out
    by_cases hil : i < l.length
    · obtain ⟨x, hx⟩ : ∃ x, l[i]? = some x := ⟨_, List.getElem?_eq_getElem hil⟩
      obtain ⟨g, o, cap', hv, _, hgl, hc⟩ := (HT.out _ HB.out).inRow (fun e => by rw [e] at hil; simp at hil)
      cases hv
      have e1 := hc i x hx
      have hxl := HZ.out x (List.mem_of_getElem? hx)
      have HE1 : Hid (∀ W', Below w.heap.size w W' → W'.cell? ⟨g, o + i, none⟩ = some (.string ⟨x.toArray⟩)) := fun W' hb => by
        obtain ⟨g', o', cap'', hv', _, _, hc'⟩ := (HT.out _ hb).inRow (fun e => by rw [e] at hil; simp at hil)
        cases hv'
        exact hc' i x hx
      obtain ⟨X, hX⟩ : ∃ X, filesR ns x = X := ⟨_, rfl⟩
      obtain ⟨y, hy⟩ : ∃ y, (letts x).map Prod.fst = y := ⟨_, rfl⟩
      have hXl : X.length ≤ 50001 := by
        rw [← hX]
        unfold filesR
        have := filesB_length (dotL x) (pcs (letts x)) ns
        split
        · split
          · simp
          · omega
        · simp
      have HPL : Hid ((letts x).map Prod.fst = y) := hy
      obtain ⟨O2, hO2⟩ : ∃ O2, O2 = O ++ X := ⟨_, rfl⟩
      have HO2 : Hid (O2 = gat (filesR ns) l (i + 1)) := by
        unfold Hid
        rw [hO2, gat_succ (filesR ns) l i x hx, HO.out, hX]
      have hO2l : O2.length ≤ 50101 := by rw [hO2, List.length_append]; omega
      have HEQ : Hid (O ++ X = O2) := hO2.symm
      have HXX : Hid (filesR ns x = X) := hX
      clear hx hc hO2 hX hy hgl
      go_wp2_with fail
      refine (rlive_any ⟨x.toArray⟩ (by show x.toArray.size < _; simp; omega) _).mono ?_
      rintro e w2 ⟨rfl, hb2⟩
      rw [show ((⟨x.toArray⟩ : ByteArray).data.toList) = x from rfl]
      have HBw2 : Hid (Below w.heap.size w w2) := HB.out.trans (hb2.mono HB.out.size)
      have HWw2 : Hid (w2.ownsRow w.heap.size 9 1 (.slice ad4 O.length cap4) O.length (txV O)) := owns_after HW.out hb2
      clear hb2 e1
      have e1 := HE1.out _ HBw2.out
      cases hlv : liveR (letts x)
      · have HX1 : Hid ([y] = X) := by
          unfold Hid
          rw [← HXX.out, ← HPL.out]
          unfold filesR
          rw [hlv]
          rfl
        clear hlv
        go_wp2_with fail
        refine (rplain_any ⟨x.toArray⟩ (by show x.toArray.size < _; simp; omega) _).mono ?_
        rintro e w4 ⟨rfl, hb4⟩
        have HB4 : Hid (Below w.heap.size w w4) := HBw2.out.trans (hb4.mono HBw2.out.size)
        rw [show ((⟨x.toArray⟩ : ByteArray).data.toList) = x from rfl, HPL.out]
        have HS : Hid (SrcT (w4.alloc (.cells #[.string ⟨y.toArray⟩] 9)) (.slice (some ⟨w4.heap.size, 0, none⟩) 1 1) X) := by
          unfold Hid
          rw [← HX1.out]
          exact (Tx.one w4 y).src
        have hb5 := below_new w4 (.cells #[.string ⟨y.toArray⟩] 9)
        have HW2' : Hid ((w4.alloc (.cells #[.string ⟨y.toArray⟩] 9)).ownsRow w.heap.size 9 1 (.slice ad4 O.length cap4) O.length (txV O)) := owns_after (owns_after HWw2.out hb4) hb5
        have HB2' : Hid (Below w.heap.size w (w4.alloc (.cells #[.string ⟨y.toArray⟩] 9))) := HB4.out.trans (hb5.mono HB4.out.size)
        have HBS : Hid (w.heap.size ≤ (w4.alloc (.cells #[.string ⟨y.toArray⟩] 9)).heap.size) := HB2'.out.size
        clear hb4 hb5 e1
        by_cases hbig : 100 < O2.length
        · have HN : Hid (bound (gatAll (filesR ns) l) = none) := bound_no (gat_fits (filesR ns) l (i + 1) (by rw [← HO2.out]; exact fits_many hbig))
          go_wp2_with (at_builtin; refine wpList_srcT rfl _ _ rfl (v := .slice ad4 O.length cap4) (xv := .slice (some ⟨w4.heap.size, 0, none⟩) 1 1) (O := O) (L := X) rfl rfl HW2'.out HS.out (by omega) HBS.out ?_; intro v' w' ho hg; rw [HEQ.out] at ho; obtain ⟨ad', cap', rfl⟩ := owns_slice ho; have HW2 : Hid (w'.ownsRow w.heap.size 9 1 (.slice ad' O2.length cap') O2.length (txV O2)) := ho; have HB2 : Hid (Below w.heap.size w w') := grown_own HBS.out HB2'.out HW2'.out hg; clear ho hg)
          go_ret2
          exact ⟨by rw [HN.out]; exact RGot.none _, HB2.out⟩
        · go_wp2_with (at_builtin; refine wpList_srcT rfl _ _ rfl (v := .slice ad4 O.length cap4) (xv := .slice (some ⟨w4.heap.size, 0, none⟩) 1 1) (O := O) (L := X) rfl rfl HW2'.out HS.out (by omega) HBS.out ?_; intro v' w' ho hg; rw [HEQ.out] at ho; obtain ⟨ad', cap', rfl⟩ := owns_slice ho; have HW2 : Hid (w'.ownsRow w.heap.size 9 1 (.slice ad' O2.length cap') O2.length (txV O2)) := ho; have HB2 : Hid (Below w.heap.size w w') := grown_own HBS.out HB2'.out HW2'.out hg; clear ho hg)
          exact ⟨⟨i + 1, O2, by simp, by omega, by omega, HO2.out, HW2.out, HB2.out⟩, by simp [intOf]; omega⟩
      · have HLV : Hid (liveR (letts x) = true) := hlv
        obtain ⟨FF, hFF⟩ : ∃ FF, filesB (dotL x) (pcs (letts x)) ns = FF := ⟨_, rfl⟩
        have hFl : FF.length ≤ 50000 := by rw [← hFF]; exact Nat.le_trans (filesB_length _ _ _) hnl
        have HC : Hid (Calls Tryz.prog 49 #[.string ⟨x.toArray⟩, .slice adn ns.length capn] w2 fun e w' => ∃ v', e = .returned v' ∧ TxAt w' v' FF ∧ Below w2.heap.size w2 w') := by
          rw [← hFF]
          exact rfiles_any x (by omega) _ ns (by omega) (fun s hs => Nat.lt_of_le_of_lt (HNZ.out s hs) (by decide)) w2 (HTN.out _ HBw2.out).texts
        have HFX : Hid (X = if FF.length = 0 then [y] else FF) := by
          unfold Hid
          rw [← HXX.out, ← HPL.out, ← hFF]
          unfold filesR
          rw [HLV.out, if_pos rfl]
        clear hlv hFF
        go_wp2_with fail
        refine Calls.mono HC.out ?_
        rintro e w3 ⟨v3, rfl, tf, hb3⟩
        obtain ⟨gf, of_, adf, capf, rfl, hcf, hnf, hef⟩ := tf
        have HTF : Hid (TxAt w3 (.slice adf FF.length capf) FF) := ⟨gf, of_, adf, capf, rfl, hcf, hnf, hef⟩
        have HBw3 : Hid (Below w.heap.size w w3) := HBw2.out.trans (hb3.mono HBw2.out.size)
        have HWw3 : Hid (w3.ownsRow w.heap.size 9 1 (.slice ad4 O.length cap4) O.length (txV O)) := owns_after HWw2.out hb3
        clear hb3 e1 hnf hef HBw2 HWw2
        have HBw2 := HBw3
        have HWw2 := HWw3
        have e1 := HE1.out _ HBw3.out
        by_cases h0 : FF.length = 0
        · have HX1 : Hid ([y] = X) := by unfold Hid; rw [HFX.out, if_pos h0]
          go_wp2_with fail
          refine (rplain_any ⟨x.toArray⟩ (by show x.toArray.size < _; simp; omega) _).mono ?_
          rintro e w4 ⟨rfl, hb4⟩
          have HB4 : Hid (Below w.heap.size w w4) := HBw2.out.trans (hb4.mono HBw2.out.size)
          rw [show ((⟨x.toArray⟩ : ByteArray).data.toList) = x from rfl, HPL.out]
          have HS : Hid (SrcT (w4.alloc (.cells #[.string ⟨y.toArray⟩] 9)) (.slice (some ⟨w4.heap.size, 0, none⟩) 1 1) X) := by
            unfold Hid
            rw [← HX1.out]
            exact (Tx.one w4 y).src
          have hb5 := below_new w4 (.cells #[.string ⟨y.toArray⟩] 9)
          have HW2' : Hid ((w4.alloc (.cells #[.string ⟨y.toArray⟩] 9)).ownsRow w.heap.size 9 1 (.slice ad4 O.length cap4) O.length (txV O)) := owns_after (owns_after HWw2.out hb4) hb5
          have HB2' : Hid (Below w.heap.size w (w4.alloc (.cells #[.string ⟨y.toArray⟩] 9))) := HB4.out.trans (hb5.mono HB4.out.size)
          have HBS : Hid (w.heap.size ≤ (w4.alloc (.cells #[.string ⟨y.toArray⟩] 9)).heap.size) := HB2'.out.size
          clear hb4 hb5 e1
          by_cases hbig : 100 < O2.length
          · have HN : Hid (bound (gatAll (filesR ns) l) = none) := bound_no (gat_fits (filesR ns) l (i + 1) (by rw [← HO2.out]; exact fits_many hbig))
            go_wp2_with (at_builtin; refine wpList_srcT rfl _ _ rfl (v := .slice ad4 O.length cap4) (xv := .slice (some ⟨w4.heap.size, 0, none⟩) 1 1) (O := O) (L := X) rfl rfl HW2'.out HS.out (by omega) HBS.out ?_; intro v' w' ho hg; rw [HEQ.out] at ho; obtain ⟨ad', cap', rfl⟩ := owns_slice ho; have HW2 : Hid (w'.ownsRow w.heap.size 9 1 (.slice ad' O2.length cap') O2.length (txV O2)) := ho; have HB2 : Hid (Below w.heap.size w w') := grown_own HBS.out HB2'.out HW2'.out hg; clear ho hg)
            go_ret2
            exact ⟨by rw [HN.out]; exact RGot.none _, HB2.out⟩
          · go_wp2_with (at_builtin; refine wpList_srcT rfl _ _ rfl (v := .slice ad4 O.length cap4) (xv := .slice (some ⟨w4.heap.size, 0, none⟩) 1 1) (O := O) (L := X) rfl rfl HW2'.out HS.out (by omega) HBS.out ?_; intro v' w' ho hg; rw [HEQ.out] at ho; obtain ⟨ad', cap', rfl⟩ := owns_slice ho; have HW2 : Hid (w'.ownsRow w.heap.size 9 1 (.slice ad' O2.length cap') O2.length (txV O2)) := ho; have HB2 : Hid (Below w.heap.size w w') := grown_own HBS.out HB2'.out HW2'.out hg; clear ho hg)
            exact ⟨⟨i + 1, O2, by simp, by omega, by omega, HO2.out, HW2.out, HB2.out⟩, by simp [intOf]; omega⟩
        · have HX1 : Hid (FF = X) := by unfold Hid; rw [HFX.out, if_neg h0]
          have HS : Hid (SrcT w3 (.slice adf FF.length capf) X) := by
            unfold Hid
            rw [← HX1.out]
            exact HTF.out.src (fun e => h0 (by rw [e]; rfl))
          have HW2' := HWw3
          have HB2' := HBw3
          have HBS : Hid (w.heap.size ≤ w3.heap.size) := HBw3.out.size
          clear e1
          by_cases hbig : 100 < O2.length
          · have HN : Hid (bound (gatAll (filesR ns) l) = none) := bound_no (gat_fits (filesR ns) l (i + 1) (by rw [← HO2.out]; exact fits_many hbig))
            go_wp2_with (at_builtin; refine wpList_srcT rfl _ _ rfl (v := .slice ad4 O.length cap4) (xv := .slice adf FF.length capf) (O := O) (L := X) rfl rfl HW2'.out HS.out (by omega) HBS.out ?_; intro v' w' ho hg; rw [HEQ.out] at ho; obtain ⟨ad', cap', rfl⟩ := owns_slice ho; have HW2 : Hid (w'.ownsRow w.heap.size 9 1 (.slice ad' O2.length cap') O2.length (txV O2)) := ho; have HB2 : Hid (Below w.heap.size w w') := grown_own HBS.out HB2'.out HW2'.out hg; clear ho hg)
            go_ret2
            exact ⟨by rw [HN.out]; exact RGot.none _, HB2.out⟩
          · go_wp2_with (at_builtin; refine wpList_srcT rfl _ _ rfl (v := .slice ad4 O.length cap4) (xv := .slice adf FF.length capf) (O := O) (L := X) rfl rfl HW2'.out HS.out (by omega) HBS.out ?_; intro v' w' ho hg; rw [HEQ.out] at ho; obtain ⟨ad', cap', rfl⟩ := owns_slice ho; have HW2 : Hid (w'.ownsRow w.heap.size 9 1 (.slice ad' O2.length cap') O2.length (txV O2)) := ho; have HB2 : Hid (Below w.heap.size w w') := grown_own HBS.out HB2'.out HW2'.out hg; clear ho hg)
            exact ⟨⟨i + 1, O2, by simp, by omega, by omega, HO2.out, HW2.out, HB2.out⟩, by simp [intOf]; omega⟩
    · obtain rfl : i = l.length := by omega
      have HR : Hid (bound (gatAll (filesR ns) l) = bound O) := by unfold Hid; rw [HO.out, gat_all]
      have HOZ : Hid (∀ s ∈ O, s.length < 4294967296) := by
        unfold Hid
        rw [HO.out]
        exact gat_mem (filesR ns) l _ (P := fun s => s.length < 4294967296) fun x hx s hs => Nat.lt_of_le_of_lt (filesR_item ns x 60000 HNZ.out (HZ.out x hx) s hs) (by decide)
      go_wp2_with fail
      refine (rfits_any _ O _ (Tx.owned HW.out) HOZ.out (by omega)).mono ?_
      rintro e w3 ⟨⟨ad3, cap3, rfl, t3⟩, hw3⟩
      subst hw3
      have H3 : Hid (RGot (bound O) (.returned (.tuple #[.slice ad3 (resL (bound O)).length cap3, .bool (bound O).isSome])) w3) := ⟨_, _, rfl, t3⟩
      clear t3
      generalize (resL (bound O)).length = n3 at *
      generalize (bound O).isSome = b3 at *
      go_wp2_with fail
      go_ret2
      exact ⟨by rw [HR.out]; exact H3.out, HB.out⟩
end Go.Proofs.YtdajacodfnidfaaGreatDoor
