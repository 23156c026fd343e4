/- A clone goes its own way; what is answered is new memory: the law. -/
import Derived.Test.YtikogljojnapaaaApart1
namespace Go.Proofs.Ytikogljojnapaaa
open Go.RowKit

abbrev spoilt : Txt := [115, 112, 111, 105, 108, 116]
theorem spoilt_le : spoilt.length ≤ maxLen := by decide
theorem Fit.up {F : Vps} {H : Fps} {n m : Nat} (h : Fit F H n) (hm : n ≤ m) : Fit F H m := ⟨Nat.le_trans h.fl hm, Nat.le_trans h.hl hm, h.fs, h.hs⟩
theorem Cel.some {W : World} {b t j : Nat} {cs : Array Value} (h : Cel W b t cs) (hj : j < cs.size) : ∃ u, W.cell? ⟨b, j, none⟩ = some u := ⟨cs[j], (h.cell j).trans (Array.getElem?_eq_getElem hj)⟩
def Sizes (D : List Dd) : Prop := D.length ≤ maxLen ∧ ∀ d ∈ D, d.k.length ≤ maxLen ∧ d.l.length ≤ maxLen ∧ d.nl.length ≤ maxLen ∧ ∀ s ∈ d.l, s.length ≤ maxLen
/-- One of the things, laid open. -/
theorem DoAt.opn {W wr : World} {v : Value} {D : List Dd} (h : DoAt W v D) (hb : Below W.heap.size W wr) {i : Nat} {d : Dd} (hd : D[i]? = some d) : ∃ g o cap, v = .slice (some ⟨g, o, none⟩) D.length cap ∧
    (wr.cell? ⟨g, o + i * 5, none⟩ = some (.int .i64 d.kd) ∧ wr.cell? ⟨g, o + i * 5 + 1, none⟩ = some (str d.k) ∧ wr.cell? ⟨g, o + i * 5 + 2, none⟩ = some d.lv ∧ wr.cell? ⟨g, o + i * 5 + 3, none⟩ = some (.bool d.b) ∧ wr.cell? ⟨g, o + i * 5 + 4, none⟩ = some d.pv) ∧ Tx wr d.lv d.l ∧ NdAt wr d.pv d.nl := by
  obtain ⟨g, o, cap, hv, _, hc, ht⟩ := (h.below hb (Nat.le_refl _)).at hd
  exact ⟨g, o, cap, hv, hc, ht⟩
set_option maxRecDepth 100000 in
set_option maxHeartbeats 16000000 in
theorem apart_main (av bv cv : Value) (DA DB DC : List Dd) (W : World) (ha : DoAt W av DA) (hb : DoAt W bv DB) (hc : DoAt W cv DC) (hsa : Sizes DA) (hsb : Sizes DB) (hsc : Sizes DC) :
    Calls Try.prog 4 #[av, bv, cv] W fun e w' => e = .returned (.bool true) ∧ Below W.heap.size W w' := by
  have HA : Hid (DoAt W av DA) := ha
  have HB : Hid (DoAt W bv DB) := hb
  have HC : Hid (DoAt W cv DC) := hc
  have HSDA : Hid (Sizes DA) := hsa
  have HSDB : Hid (Sizes DB) := hsb
  have HSDC : Hid (Sizes DC) := hsc
  obtain ⟨ada, capa, rfl⟩ := ha.form
  obtain ⟨adb, capb, rfl⟩ := hb.form
  obtain ⟨adc, capc, rfl⟩ := hc.form
  clear ha hb hc hsa hsb hsc
  go_enter Try.func4, Try.ntmps4
  go_wp2_with fail
  refine (first_any W).mono ?_
  rintro e w1 ⟨rfl, hb1⟩
  go_wp2_with fail
  refine (light_any _ DA w1 (HA.out.below hb1 (Nat.le_refl _)) HSDA.out.1 HSDA.out.2).mono ?_
  rintro e w2 ⟨r, rfl, hw2, hr1⟩
  obtain rfl := hw2.symm
  have HR1 : Hid (r = true → DA.length ≤ 60 ∧ ∀ d ∈ DA, Few d) := hr1
  clear hw2 hr1
  cases r with
  | false =>
    go_wp2_with fail
    go_ret
    exact ⟨rfl, hb1⟩
  | true =>
  go_wp2_with fail
  refine (light_any _ DB w1 (HB.out.below hb1 (Nat.le_refl _)) HSDB.out.1 HSDB.out.2).mono ?_
  rintro e w2 ⟨r, rfl, hw2, hr2⟩
  obtain rfl := hw2.symm
  have HR2 : Hid (r = true → DB.length ≤ 60 ∧ ∀ d ∈ DB, Few d) := hr2
  clear hw2 hr2
  cases r with
  | false =>
    go_wp2_with fail
    go_ret
    exact ⟨rfl, hb1⟩
  | true =>
  go_wp2_with fail
  refine (light_any _ DC w1 (HC.out.below hb1 (Nat.le_refl _)) HSDC.out.1 HSDC.out.2).mono ?_
  rintro e w2 ⟨r, rfl, hw2, hr3⟩
  obtain rfl := hw2.symm
  have HR3 : Hid (r = true → DC.length ≤ 60 ∧ ∀ d ∈ DC, Few d) := hr3
  clear hw2 hr3
  cases r with
  | false =>
    go_wp2_with fail
    go_ret
    exact ⟨rfl, hb1⟩
  | true =>
  obtain ⟨hA60, hfA⟩ := HR1.out (by trivial)
  obtain ⟨hB60, hfB⟩ := HR2.out (by trivial)
  obtain ⟨hC60, hfC⟩ := HR3.out (by trivial)
  have HFDA : Hid (∀ d ∈ DA, Few d) := hfA
  have HFDB : Hid (∀ d ∈ DB, Few d) := hfB
  have HFDC : Hid (∀ d ∈ DC, Few d) := hfC
  clear HR1 HR2 HR3 hfA hfB hfC
  go_wp2_with fail
  refine (new_any _ [] w1 (VaAt.nil w1) (by decide) (fun p hp => by simp at hp)).mono ?_
  rintro e w3 ⟨sb, vb, fb, K, V, rfl, hS, hV, hK, hVl, hb3⟩
  have hB3 : Below W.heap.size W w3 := hb1.trans (hb3.mono hb1.size)
  have HD0 : Hid (DuoB W (w3.alloc (.cells #[.slice none 0 0, .slice none 0 0, .slice none 0 0] 32)) sb vb fb w3.heap.size (newM []) []) := Both.duo (X := []) (Both.start hS (fun i hi => Nat.le_trans hb1.size (hK i hi)) hB3) hV
  have HFT : Hid (Fit (newM []) [] (1 + 0)) := ⟨by decide, by decide, newM_fit [] (fun p hp => by simp at hp), fun p hp => by simp at hp⟩
  clear hS hV hK hb3 hVl hB3
  go_wp2_with fail
  generalize hw4 : w3.alloc (.cells #[.slice none 0 0, .slice none 0 0, .slice none 0 0] 32) = w4 at *
  generalize hxb : w3.heap.size = xb at *
  clear hw4 hxb
  go_loopw [10] (fun v_ wr => ∃ (i : Nat) (F : Vps) (H : Fps), v_ = .int .i64 i ∧ i ≤ DA.length ∧ Hid (DuoB W wr sb vb fb xb F H ∧ Fit F H (1 + i))) (fun v_ _ => DA.length - (intOf v_).toNat)
  case atStart => exact ⟨0, _, _, rfl, Nat.zero_le _, HD0.out, HFT.out⟩
  case round => as_aux_lemma =>
    obtain ⟨i, F, H, rfl, hi, HR⟩ := hrel
    have hbw : Below W.heap.size W wr := HR.out.1.toC.bel
    by_cases hil : i < DA.length
    · obtain ⟨d, hd⟩ := mem_iff_some hil
      obtain ⟨g, o, cap', hv, ⟨e0, e1, e2, e3, e4⟩, tl, tn⟩ := HA.out.opn hbw hd
      cases hv
      have hfd := HFDA.out d (List.mem_of_getElem? hd)
      have hkd : d.k.length ≤ maxLen := (HSDA.out.2 d (List.mem_of_getElem? hd)).1
      obtain ⟨adl, capl, hlv⟩ := tl.form
      obtain ⟨adp, capp, hpv⟩ := tn.form
      obtain ⟨kd, k, lv, l, b, pv, nl⟩ := d
      simp only at e0 e1 e2 e3 e4 hlv hpv hkd tl tn
      subst hlv hpv
      obtain ⟨f1, f2, f3⟩ := hfd
      simp only at f1 f2 f3
      have HTB : Hid _ := tellB HR.out.1 (HR.out.2.up (by omega)) kd k _ l b _ nl tl tn f1 f2 hkd
      have HFT2 : Hid (Fit (tellF kd k l b F) (tellH kd k nl H) (1 + i + 1)) := fit_tell HR.out.2 kd b hkd f1 f2
      clear hd tl tn
      go_wp2_with fail
      refine Calls.mono HTB.out ?_
      rintro e w7 ⟨rfl, hD7⟩
      have HD7 : Hid (DuoB W w7 sb vb fb xb (tellF kd k l b F) (tellH kd k nl H)) := hD7
      clear hD7
      go_wp2_with fail
      exact ⟨⟨i + 1, _, _, by simp, by omega, HD7.out, HFT2.out⟩, by simp [intOf]; omega⟩
    · have hia : i ≤ 60 := by omega
      have HDC : Hid (DuoC W wr wr.heap.size sb vb fb xb F H) := HR.out.1.toC
      have HF61 : Hid (Fit F H 61) := HR.out.2.up (by omega)
      go_wp2_with fail
      refine (cloneD HDC.out HF61.out).mono ?_
      rintro e w5 ⟨tb, tv, tf, rfl, hT5, hb5⟩
      have HT5 : Hid (Tb wr.heap.size tb tv tf (61 + 0) w5) := hT5
      generalize hcc : wr.heap.size = c at *
      have HD5 : Hid (DuoC W w5 c sb vb fb xb F H) := HDC.out.below' hb5
      clear hT5 hb5 hcc HR
      go_wp2_with fail
      go_loopw [12] (fun v12 wr => ∃ (j : Nat), v12 = .int .i64 j ∧ j ≤ DB.length ∧ Hid (Tb c tb tv tf (61 + j) wr ∧ DuoC W wr c sb vb fb xb F H)) (fun v12 _ => DB.length - (intOf v12).toNat)
      case atStart => exact ⟨0, rfl, Nat.zero_le _, HT5.out, HD5.out⟩
      case round => as_aux_lemma =>
        obtain ⟨j, rfl, hj, HR⟩ := hrel
        have hbw0 : Below W.heap.size W wr := HR.out.2.bel
        have hbw : Below W.heap.size W (wr.alloc (.cells #[.slice none 0 0, .slice none 0 0, .slice none 0 0] 32)) := hbw0.alloc hbw0.size _
        by_cases hil : j < DB.length
        · obtain ⟨d, hd⟩ := mem_iff_some hil
          obtain ⟨g, o, cap', hv, ⟨e0, e1, e2, e3, e4⟩, tl, tn⟩ := HB.out.opn hbw hd
          cases hv
          have hfd := HFDB.out d (List.mem_of_getElem? hd)
          have hkd : d.k.length ≤ maxLen := (HSDB.out.2 d (List.mem_of_getElem? hd)).1
          have htw := (HB.out.below hbw0 (Nat.le_refl _)).2 d (List.mem_of_getElem? hd)
          obtain ⟨adl, capl, hlv⟩ := tl.form
          obtain ⟨adp, capp, hpv⟩ := tn.form
          obtain ⟨kd, k, lv, l, b, pv, nl⟩ := d
          simp only at e0 e1 e2 e3 e4 hlv hpv hkd tl tn htw
          subst hlv hpv
          obtain ⟨f1, f2, f3⟩ := hfd
          simp only at f1 f2 f3
          have HTB : Hid _ := tellT HR.out.1 (by omega) HR.out.2.1 kd k _ l b _ nl htw.1 htw.2 f1 f2 hkd
          clear hd tl tn htw
          go_wp2_with fail
          refine Calls.mono HTB.out ?_
          rintro e w7 ⟨r, rfl, hT7, hb7⟩
          have HD7 : Hid (Tb c tb tv tf (61 + j + 1) w7 ∧ DuoC W w7 c sb vb fb xb F H) := ⟨hT7, HR.out.2.below' hb7⟩
          clear hT7 hb7
          go_wp2_with fail
          exact ⟨⟨j + 1, by simp, by omega, HD7.out⟩, by simp [intOf]; omega⟩
        · have HD8 : Hid (DuoC W wr c sb vb fb xb F H) := HR.out.2
          clear HR HT5 HD5
          go_wp2_with fail
          refine (varsD HD8.out (HF61.out.up (by omega))).mono ?_
          rintro e w8 ⟨vY, Y, rfl, hoY, ⟨hYl, hYn⟩, hb8⟩
          have HYN : Hid (∀ p ∈ Y, p.1.length ≤ maxLen ∧ p.2.2.length ≤ 20) := hYn
          have HSA : Hid (StA W c sb vb fb xb F H vY Y w8) := ⟨HD8.out.below hb8, owns_lower hoY.1 HD8.out.1, fun p hp => Rwg.of (hoY.2 p hp) HD8.out.1⟩
          obtain ⟨adY, capY, rfl⟩ := owns_slice hoY.1
          have HYF : Hid (∀ p ∈ Y, ∃ ad cap, p.2.1 = .slice ad p.2.2.length cap) := fun p hp => owns_slice (hoY.2 p hp)
          clear hoY hb8 hYn
          go_wp2_with fail
          go_loopw [14, 15, 16, 17, 18] (fun v14 _ _ _ _ wr => ∃ (p : Nat), v14 = .int .i64 p ∧ p ≤ Y.length ∧ Hid (StA W c sb vb fb xb F H (.slice adY Y.length capY) Y wr)) (fun v14 _ _ _ _ _ => Y.length - (intOf v14).toNat)
          case atStart => exact ⟨0, rfl, Nat.zero_le _, HSA.out⟩
          case round => as_aux_lemma =>
            obtain ⟨p, rfl, hp, HI⟩ := hrel
            by_cases hpl : p < Y.length
            · obtain ⟨y, hy⟩ := mem_iff_some hpl
              have hym := List.mem_of_getElem? hy
              obtain ⟨gY, capY', hvY, _, y0, y1⟩ := pr_at HI.out.v hy
              cases hvY
              have HYC : Hid (∀ wr, StA W c sb vb fb xb F H (.slice (some ⟨gY, 0, none⟩) Y.length capY) Y wr → wr.cell? ⟨gY, p * 2, none⟩ = some (str y.1) ∧ wr.cell? ⟨gY, p * 2 + 1, none⟩ = some y.2.1 ∧ Rwg c wr y.2.1 y.2.2.length 9 1) := fun wr h => by
                obtain ⟨g', cap', hv', _, z0, z1⟩ := pr_at h.v hy
                cases hv'
                exact ⟨z0, z1, h.y y hym⟩
              obtain ⟨hyn, hy20⟩ := HYN.out y hym
              obtain ⟨adL, nL, capL, hyv, hnL⟩ : ∃ ad n cap, y.2.1 = .slice ad n cap ∧ n = y.2.2.length := by
                obtain ⟨ad, cap, h⟩ := HYF.out y hym
                exact ⟨ad, _, cap, h, rfl⟩
              have HNL : Hid (nL = y.2.2.length) := hnL
              have hnL20 : nL ≤ 20 := by omega
              rw [hyv] at y1 HYC
              clear hy hyv hnL
              go_wp2_with fail
              go_loopw [15] (fun v15 wr => ∃ (q : Nat), v15 = .int .i64 q ∧ q ≤ nL ∧ Hid (StA W c sb vb fb xb F H (.slice (some ⟨gY, 0, none⟩) Y.length capY) Y wr)) (fun v15 _ => nL - (intOf v15).toNat)
              case atStart => exact ⟨0, rfl, Nat.zero_le _, HI.out⟩
              case round => as_aux_lemma =>
                obtain ⟨q, rfl, hq, HJ⟩ := hrel
                obtain ⟨z0, z1, z2⟩ := HYC.out _ HJ.out
                by_cases hql : q < nL
                · obtain ⟨gL, capL', ds, hvL, hcL, hlL, hgL⟩ := z2.cell (j := q) (by rw [← HNL.out]; exact hql) (by decide)
                  rw [← HNL.out] at hvL hlL
                  cases hvL
                  obtain ⟨uu, s1⟩ : ∃ uu, wr.cell? ⟨gL, q, none⟩ = some uu := hcL.some (by omega)
                  have s2 := hcL.frozen q
                  have HW : Hid (StA W c sb vb fb xb F H (.slice (some ⟨gY, 0, none⟩) Y.length capY) Y (wr.setCell ⟨gL, q, none⟩ (str spoilt))) := HJ.out.write hcL hgL _
                  clear z0 z2 hcL hlL
                  go_wp2_with fail
                  exact ⟨⟨q + 1, by simp, by omega, HW.out⟩, by simp [intOf]; omega⟩
                · have hnq : ¬ (q : Int) < (nL : Int) := by omega
                  have HD9 : Hid (DuoC W wr.drew c sb vb fb xb F H) := HJ.out.d.below ((Below.refl _ wr).drew)
                  have u0 : wr.drew.cell? ⟨gY, p * 2, none⟩ = some (str y.1) := z0
                  clear z0 z2
                  go_upto_region 27 with fail
                  refine wp_region_any (by kernel_rfl) ?_
                  try (change wpAny _ _ _ _ _ _ _ (World.drew _))
                  refine wpAny_take (i := 0) (v := sP sb) rfl (by kernel_rfl) (by kernel_rfl) (by kernel_rfl) (fun _ _ _ h => h) (Or.inl ⟨by rfl, by intro wz; go_simp⟩) ?_
                  try simp only [Act.put, List.getElem_toArray, List.getElem_cons_zero, List.setIfInBounds_toArray, List.set_cons_zero, List.set_cons_succ]
                  refine wpAny_take (i := 1) (v := sP sb) rfl (by kernel_rfl) (by kernel_rfl) (by kernel_rfl) (fun _ _ _ h => h) (Or.inl ⟨by rfl, by intro wz; go_simp⟩) ?_
                  try simp only [Act.put, List.getElem_toArray, List.getElem_cons_succ, List.getElem_cons_zero, List.setIfInBounds_toArray, List.set_cons_zero, List.set_cons_succ]
                  refine wpAny_take (i := 2) (v := sP sb) rfl (by kernel_rfl) (by kernel_rfl) (by kernel_rfl) (fun _ _ _ h => h) (Or.inl ⟨by rfl, by intro wz; go_simp⟩) ?_
                  try simp only [Act.put, List.getElem_toArray, List.getElem_cons_succ, List.getElem_cons_zero, List.setIfInBounds_toArray, List.set_cons_zero, List.set_cons_succ]
                  refine wpAny_take (i := 3) (v := .slice (some ⟨gY, 0, none⟩) Y.length capY) rfl (by kernel_rfl) (by kernel_rfl) (by kernel_rfl) (fun _ _ _ h => h) (Or.inl ⟨by rfl, by intro wz; go_simp⟩) ?_
                  try simp only [Act.put, List.getElem_toArray, List.getElem_cons_succ, List.getElem_cons_zero, List.setIfInBounds_toArray, List.set_cons_zero, List.set_cons_succ]
                  refine wpAny_take (i := 4) (v := .int .i64 (p : Nat)) rfl (by kernel_rfl) (by kernel_rfl) (by kernel_rfl) (fun _ _ _ h => h) (Or.inl ⟨by rfl, by intro wz; go_simp⟩) ?_
                  try simp only [Act.put, List.getElem_toArray, List.getElem_cons_succ, List.getElem_cons_zero, List.setIfInBounds_toArray, List.set_cons_zero, List.set_cons_succ]
                  refine wpAny_take (i := 5) (v := .pointer (some ⟨gY, p * 2, none⟩)) rfl (by kernel_rfl) (by kernel_rfl) (by kernel_rfl) (fun _ _ _ h => h) (Or.inl ⟨by rfl, by intro wz; go_simp⟩) ?_
                  try simp only [Act.put, List.getElem_toArray, List.getElem_cons_succ, List.getElem_cons_zero, List.setIfInBounds_toArray, List.set_cons_zero, List.set_cons_succ]
                  refine wpAny_take (i := 6) (v := .pointer (some ⟨gY, p * 2, none⟩)) rfl (by kernel_rfl) (by kernel_rfl) (by kernel_rfl) (fun _ _ _ h => h) (Or.inl ⟨by rfl, by intro wz; go_simp⟩) ?_
                  try simp only [Act.put, List.getElem_toArray, List.getElem_cons_succ, List.getElem_cons_zero, List.setIfInBounds_toArray, List.set_cons_zero, List.set_cons_succ]
                  refine wpAny_ready (rs := [7]) (by kernel_rfl) (by simp) ?_
                  refine AllReady.cons rfl (fun K hK => ?_) ?_
                  · go_simp
                    refine hK _ _ ?_
                    clear hK K
                    try simp only [Act.put, List.getElem_toArray, List.getElem_cons_succ, List.getElem_cons_zero, List.setIfInBounds_toArray, List.set_cons_zero, List.set_cons_succ]
                    refine wpAny_ready (rs := [8]) (by kernel_rfl) (by simp) ?_
                    refine AllReady.cons rfl (fun K hK => ?_) ?_
                    · go_simp
                      refine (getD HD9.out HF61.out y.1 hyn).mono ?_
                      rintro e w9 ⟨gv, gb, gm, gx, rfl, hog, hgm, hb9⟩
                      refine hK _ _ ?_
                      clear hK K
                      try simp only [Act.put, List.getElem_toArray, List.getElem_cons_succ, List.getElem_cons_zero, List.setIfInBounds_toArray, List.set_cons_zero, List.set_cons_succ]
                      have HSB : Hid (StA W c sb vb fb xb F H (.slice (some ⟨gY, 0, none⟩) Y.length capY) Y w9) := HJ.out.below (((Below.refl _ wr).drew).trans hb9)
                      have HRG : Hid (Rwg c w9 gv gm 9 1) := Rwg.of hog HJ.out.d.1
                      obtain ⟨adG, capG, rfl⟩ := owns_slice hog
                      clear hog hb9
                      refine wpAny_take (i := 9) (v := .tuple #[.slice adG gm capG, .bool gb]) rfl (by kernel_rfl) (by kernel_rfl) (by kernel_rfl) (fun _ _ _ h => h) (Or.inl ⟨by rfl, by intro wz; go_simp⟩) ?_
                      try simp only [Act.put, List.getElem_toArray, List.getElem_cons_succ, List.getElem_cons_zero, List.setIfInBounds_toArray, List.set_cons_zero, List.set_cons_succ]
                      refine wpAny_take (i := 10) (v := .slice adG gm capG) rfl (by kernel_rfl) (by kernel_rfl) (by kernel_rfl) (fun _ _ _ h => h) (Or.inl ⟨by rfl, by intro wz; go_simp⟩) ?_
                      try simp only [Act.put, List.getElem_toArray, List.getElem_cons_succ, List.getElem_cons_zero, List.setIfInBounds_toArray, List.set_cons_zero, List.set_cons_succ]
                      refine wpAny_take (i := 11) (v := .bool gb) rfl (by kernel_rfl) (by kernel_rfl) (by kernel_rfl) (fun _ _ _ h => h) (Or.inl ⟨by rfl, by intro wz; go_simp⟩) ?_
                      try simp only [Act.put, List.getElem_toArray, List.getElem_cons_succ, List.getElem_cons_zero, List.setIfInBounds_toArray, List.set_cons_zero, List.set_cons_succ]
                      refine wpAny_take (i := 12) (v := .slice adG gm capG) rfl (by kernel_rfl) (by kernel_rfl) (by kernel_rfl) (fun _ _ _ h => h) (Or.inl ⟨by rfl, by intro wz; go_simp⟩) ?_
                      try simp only [Act.put, List.getElem_toArray, List.getElem_cons_succ, List.getElem_cons_zero, List.setIfInBounds_toArray, List.set_cons_zero, List.set_cons_succ]
                      refine wpAny_take (i := 13) (v := .bool gb) rfl (by kernel_rfl) (by kernel_rfl) (by kernel_rfl) (fun _ _ _ h => h) (Or.inl ⟨by rfl, by intro wz; go_simp⟩) ?_
                      try simp only [Act.put, List.getElem_toArray, List.getElem_cons_succ, List.getElem_cons_zero, List.setIfInBounds_toArray, List.set_cons_zero, List.set_cons_succ]
                      refine wpAny_done (by kernel_rfl) ?_ _
                      go_wp2_with fail
                      go_loopw [18] (fun v18 wr => ∃ (s : Nat), v18 = .int .i64 s ∧ s ≤ gm ∧ Hid (StA W c sb vb fb xb F H (.slice (some ⟨gY, 0, none⟩) Y.length capY) Y wr ∧ Rwg c wr (.slice adG gm capG) gm 9 1)) (fun v18 _ => gm - (intOf v18).toNat)
                      case atStart => exact ⟨0, rfl, Nat.zero_le _, HSB.out, HRG.out⟩
                      case round => as_aux_lemma =>
                        obtain ⟨s, rfl, hs, HS⟩ := hrel
                        by_cases hsl : s < gm
                        · obtain ⟨gL, capL', ds, hvL, hcL, hlL, hgL⟩ := HS.out.2.cell hsl (by decide)
                          cases hvL
                          obtain ⟨uu, s1⟩ : ∃ uu, wr.cell? ⟨gL, s, none⟩ = some uu := hcL.some (by omega)
                          have s2 := hcL.frozen s
                          have HW : Hid (StA W c sb vb fb xb F H (.slice (some ⟨gY, 0, none⟩) Y.length capY) Y (wr.setCell ⟨gL, s, none⟩ (str spoilt)) ∧ Rwg c (wr.setCell ⟨gL, s, none⟩ (str spoilt)) (.slice (some ⟨gL, 0, none⟩) gm capG) gm 9 1) := ⟨HS.out.1.write hcL hgL _, HS.out.2.write hcL _⟩
                          clear hcL hlL
                          go_wp2_with fail
                          exact ⟨⟨s + 1, by simp, by omega, HW.out⟩, by simp [intOf]; omega⟩
                        · have hns : ¬ (s : Int) < (gm : Int) := by omega
                          go_wp2_with fail
                          go_roundw
                          case rel => exact ⟨p + 1, by simp, by omega, HS.out.1⟩
                          case measure => simp [intOf]; omega
                    exact AllReady.nil
                  exact AllReady.nil
            · have HD10 : Hid (DuoC W wr c sb vb fb xb F H) := HI.out.d
              clear HI HSA
              go_wp2_with fail
              refine (funsD HD10.out (HF61.out.up (by omega))).mono ?_
              rintro e w11 ⟨fvv, rfl, hof, hb11⟩
              have hsr : StrRow c w11 fvv (H.map Prod.fst).length := StrRow.of hof (fun s hs => by
                obtain ⟨q, hq, rfl⟩ := List.mem_map.1 hs
                exact (HF61.out.hs q hq).1) HD10.out.1
              rw [List.length_map] at hof hsr
              obtain ⟨adF, capF, rfl⟩ := owns_slice hof
              have HSR : Hid (DuoC W w11 c sb vb fb xb F H ∧ StrRow c w11 (.slice adF H.length capF) H.length) := ⟨HD10.out.below hb11, hsr⟩
              have hHl : H.length ≤ 61 := HF61.out.hl
              clear hof hsr hb11
              go_wp2_with fail
              go_loopw [20, 21, 22, 23] (fun v20 _ _ _ wr => ∃ (t : Nat), v20 = .int .i64 t ∧ t ≤ H.length ∧ Hid (DuoC W wr c sb vb fb xb F H ∧ StrRow c wr (.slice adF H.length capF) H.length)) (fun v20 _ _ _ _ => H.length - (intOf v20).toNat)
              case atStart => exact ⟨0, rfl, Nat.zero_le _, HSR.out⟩
              case round => as_aux_lemma =>
                obtain ⟨t, rfl, ht, HI⟩ := hrel
                by_cases htl : t < H.length
                · obtain ⟨gF, capF', cs, sn, hvF, hcF, hgF, cF, hsn, _⟩ := HI.out.2.own htl
                  cases hvF
                  have u0 : wr.drew.cell? ⟨gF, t, none⟩ = some (str sn) := cF
                  have HD12 : Hid (DuoC W wr.drew c sb vb fb xb F H) := HI.out.1.below ((Below.refl _ wr).drew)
                  clear hcF cF
                  go_upto_region 36 with fail
                  refine wp_region_any (by kernel_rfl) ?_
                  try (change wpAny _ _ _ _ _ _ _ (World.drew _))
                  refine wpAny_take (i := 0) (v := sP sb) rfl (by kernel_rfl) (by kernel_rfl) (by kernel_rfl) (fun _ _ _ h => h) (Or.inl ⟨by rfl, by intro wz; go_simp⟩) ?_
                  try simp only [Act.put, List.getElem_toArray, List.getElem_cons_zero, List.setIfInBounds_toArray, List.set_cons_zero, List.set_cons_succ]
                  refine wpAny_take (i := 1) (v := sP sb) rfl (by kernel_rfl) (by kernel_rfl) (by kernel_rfl) (fun _ _ _ h => h) (Or.inl ⟨by rfl, by intro wz; go_simp⟩) ?_
                  try simp only [Act.put, List.getElem_toArray, List.getElem_cons_succ, List.getElem_cons_zero, List.setIfInBounds_toArray, List.set_cons_zero, List.set_cons_succ]
                  refine wpAny_take (i := 2) (v := fP sb) rfl (by kernel_rfl) (by kernel_rfl) (by kernel_rfl) (fun _ _ _ h => h) (Or.inl ⟨by rfl, by intro wz; go_simp⟩) ?_
                  try simp only [Act.put, List.getElem_toArray, List.getElem_cons_succ, List.getElem_cons_zero, List.setIfInBounds_toArray, List.set_cons_zero, List.set_cons_succ]
                  refine wpAny_take (i := 3) (v := .slice (some ⟨gF, 0, none⟩) H.length capF) rfl (by kernel_rfl) (by kernel_rfl) (by kernel_rfl) (fun _ _ _ h => h) (Or.inl ⟨by rfl, by intro wz; go_simp⟩) ?_
                  try simp only [Act.put, List.getElem_toArray, List.getElem_cons_succ, List.getElem_cons_zero, List.setIfInBounds_toArray, List.set_cons_zero, List.set_cons_succ]
                  refine wpAny_take (i := 4) (v := .int .i64 (t : Nat)) rfl (by kernel_rfl) (by kernel_rfl) (by kernel_rfl) (fun _ _ _ h => h) (Or.inl ⟨by rfl, by intro wz; go_simp⟩) ?_
                  try simp only [Act.put, List.getElem_toArray, List.getElem_cons_succ, List.getElem_cons_zero, List.setIfInBounds_toArray, List.set_cons_zero, List.set_cons_succ]
                  refine wpAny_take (i := 5) (v := .pointer (some ⟨gF, t, none⟩)) rfl (by kernel_rfl) (by kernel_rfl) (by kernel_rfl) (fun _ _ _ h => h) (Or.inl ⟨by rfl, by intro wz; go_simp⟩) ?_
                  try simp only [Act.put, List.getElem_toArray, List.getElem_cons_succ, List.getElem_cons_zero, List.setIfInBounds_toArray, List.set_cons_zero, List.set_cons_succ]
                  refine wpAny_ready (rs := [6]) (by kernel_rfl) (by simp) ?_
                  refine AllReady.cons rfl (fun K hK => ?_) ?_
                  · go_simp
                    refine hK _ _ ?_
                    clear hK K
                    try simp only [Act.put, List.getElem_toArray, List.getElem_cons_succ, List.getElem_cons_zero, List.setIfInBounds_toArray, List.set_cons_zero, List.set_cons_succ]
                    refine wpAny_ready (rs := [7]) (by kernel_rfl) (by simp) ?_
                    refine AllReady.cons rfl (fun K hK => ?_) ?_
                    · go_simp
                      refine (funD HD12.out HF61.out sn hsn).mono ?_
                      rintro e w12 ⟨pvv, pb, pm, px, rfl, hop, hpm, hb12⟩
                      refine hK _ _ ?_
                      clear hK K
                      try simp only [Act.put, List.getElem_toArray, List.getElem_cons_succ, List.getElem_cons_zero, List.setIfInBounds_toArray, List.set_cons_zero, List.set_cons_succ]
                      have HS12 : Hid (DuoC W w12 c sb vb fb xb F H ∧ StrRow c w12 (.slice (some ⟨gF, 0, none⟩) H.length capF) H.length ∧ Rwg c w12 pvv pm 58 5) := ⟨HD12.out.below hb12, HI.out.2.below (((Below.refl _ wr).drew).trans hb12), Rwg.of hop HD12.out.1⟩
                      obtain ⟨adP, capP, rfl⟩ := owns_slice hop
                      clear hop hb12
                      refine wpAny_take (i := 8) (v := .tuple #[.slice adP pm capP, .bool pb]) rfl (by kernel_rfl) (by kernel_rfl) (by kernel_rfl) (fun _ _ _ h => h) (Or.inl ⟨by rfl, by intro wz; go_simp⟩) ?_
                      try simp only [Act.put, List.getElem_toArray, List.getElem_cons_succ, List.getElem_cons_zero, List.setIfInBounds_toArray, List.set_cons_zero, List.set_cons_succ]
                      refine wpAny_take (i := 9) (v := .slice adP pm capP) rfl (by kernel_rfl) (by kernel_rfl) (by kernel_rfl) (fun _ _ _ h => h) (Or.inl ⟨by rfl, by intro wz; go_simp⟩) ?_
                      try simp only [Act.put, List.getElem_toArray, List.getElem_cons_succ, List.getElem_cons_zero, List.setIfInBounds_toArray, List.set_cons_zero, List.set_cons_succ]
                      refine wpAny_take (i := 10) (v := .bool pb) rfl (by kernel_rfl) (by kernel_rfl) (by kernel_rfl) (fun _ _ _ h => h) (Or.inl ⟨by rfl, by intro wz; go_simp⟩) ?_
                      try simp only [Act.put, List.getElem_toArray, List.getElem_cons_succ, List.getElem_cons_zero, List.setIfInBounds_toArray, List.set_cons_zero, List.set_cons_succ]
                      refine wpAny_take (i := 11) (v := .slice adP pm capP) rfl (by kernel_rfl) (by kernel_rfl) (by kernel_rfl) (fun _ _ _ h => h) (Or.inl ⟨by rfl, by intro wz; go_simp⟩) ?_
                      try simp only [Act.put, List.getElem_toArray, List.getElem_cons_succ, List.getElem_cons_zero, List.setIfInBounds_toArray, List.set_cons_zero, List.set_cons_succ]
                      refine wpAny_take (i := 12) (v := .bool pb) rfl (by kernel_rfl) (by kernel_rfl) (by kernel_rfl) (fun _ _ _ h => h) (Or.inl ⟨by rfl, by intro wz; go_simp⟩) ?_
                      try simp only [Act.put, List.getElem_toArray, List.getElem_cons_succ, List.getElem_cons_zero, List.setIfInBounds_toArray, List.set_cons_zero, List.set_cons_succ]
                      refine wpAny_done (by kernel_rfl) ?_ _
                      go_wp2_with fail
                      go_loopw [23] (fun v23 wr => ∃ (s : Nat), v23 = .int .i64 s ∧ s ≤ pm ∧ Hid (DuoC W wr c sb vb fb xb F H ∧ StrRow c wr (.slice (some ⟨gF, 0, none⟩) H.length capF) H.length ∧ Rwg c wr (.slice adP pm capP) pm 58 5)) (fun v23 _ => pm - (intOf v23).toNat)
                      case atStart => exact ⟨0, rfl, Nat.zero_le _, HS12.out⟩
                      case round => as_aux_lemma =>
                        obtain ⟨s, rfl, hs, HS⟩ := hrel
                        by_cases hsl : s < pm
                        · obtain ⟨gL, capL', ds, hvL, hcL, hlL, hgL⟩ := HS.out.2.2.cell hsl (by decide)
                          cases hvL
                          obtain ⟨uu, s1⟩ : ∃ uu, wr.cell? ⟨gL, s * 5 + 4, none⟩ = some uu := hcL.some (by omega)
                          have s2 := hcL.frozen (s * 5 + 4)
                          have HW : Hid (DuoC W (wr.setCell ⟨gL, s * 5 + 4, none⟩ (str spoilt)) c sb vb fb xb F H ∧ StrRow c (wr.setCell ⟨gL, s * 5 + 4, none⟩ (str spoilt)) (.slice (some ⟨gF, 0, none⟩) H.length capF) H.length ∧ Rwg c (wr.setCell ⟨gL, s * 5 + 4, none⟩ (str spoilt)) (.slice (some ⟨gL, 0, none⟩) pm capP) pm 58 5) := ⟨HS.out.1.below' (set_below hgL _), HS.out.2.1.write hcL _, HS.out.2.2.write hcL _⟩
                          clear hcL hlL
                          go_wp2_with fail
                          exact ⟨⟨s + 1, by simp, by omega, HW.out⟩, by simp [intOf]; omega⟩
                        · have hns : ¬ (s : Int) < (pm : Int) := by omega
                          obtain ⟨gF', capF', cs', sn', hvF', hcF', hgF', cF', _, hwF'⟩ := HS.out.2.1.own htl
                          cases hvF'
                          have fF' := hcF'.frozen t
                          have HW2 : Hid (DuoC W (wr.setCell ⟨gF, t, none⟩ (str spoilt)) c sb vb fb xb F H ∧ StrRow c (wr.setCell ⟨gF, t, none⟩ (str spoilt)) (.slice (some ⟨gF, 0, none⟩) H.length capF) H.length) := ⟨HS.out.1.below' (set_below hgF' _), hwF' spoilt spoilt_le⟩
                          clear hwF' hcF'
                          go_wp2_with fail
                          go_roundw
                          case rel => exact ⟨t + 1, by simp, by omega, HW2.out⟩
                          case measure => simp [intOf]; omega
                    exact AllReady.nil
                  exact AllReady.nil
                · have HD13 : Hid (DuoB W wr sb vb fb xb F H ∧ Fit F H (61 + 0)) := ⟨HI.out.1.toB, HF61.out⟩
                  clear HI HSR HD10 HD8
                  go_wp2_with fail
                  go_loopw [24] (fun v24 wr => ∃ (i : Nat) (F : Vps) (H : Fps), v24 = .int .i64 i ∧ i ≤ DC.length ∧ Hid (DuoB W wr sb vb fb xb F H ∧ Fit F H (61 + i))) (fun v24 _ => DC.length - (intOf v24).toNat)
                  case atStart => exact ⟨0, _, _, rfl, Nat.zero_le _, HD13.out⟩
                  case round => as_aux_lemma =>
                    obtain ⟨i, F, H, rfl, hi, HR⟩ := hrel
                    have hbw : Below W.heap.size W wr := HR.out.1.toC.bel
                    by_cases hil : i < DC.length
                    · obtain ⟨d, hd⟩ := mem_iff_some hil
                      obtain ⟨g, o, cap', hv, ⟨e0, e1, e2, e3, e4⟩, tl, tn⟩ := HC.out.opn hbw hd
                      cases hv
                      have hfd := HFDC.out d (List.mem_of_getElem? hd)
                      have hkd : d.k.length ≤ maxLen := (HSDC.out.2 d (List.mem_of_getElem? hd)).1
                      obtain ⟨adl, capl, hlv⟩ := tl.form
                      obtain ⟨adp, capp, hpv⟩ := tn.form
                      obtain ⟨kd, k, lv, l, b, pv, nl⟩ := d
                      simp only at e0 e1 e2 e3 e4 hlv hpv hkd tl tn
                      subst hlv hpv
                      obtain ⟨f1, f2, f3⟩ := hfd
                      simp only at f1 f2 f3
                      have HTB : Hid _ := tellB HR.out.1 (HR.out.2.up (by omega)) kd k _ l b _ nl tl tn f1 f2 hkd
                      have HFT2 : Hid (Fit (tellF kd k l b F) (tellH kd k nl H) (61 + i + 1)) := fit_tell HR.out.2 kd b hkd f1 f2
                      clear hd tl tn
                      go_wp2_with fail
                      refine Calls.mono HTB.out ?_
                      rintro e w7 ⟨rfl, hD7⟩
                      have HD7 : Hid (DuoB W w7 sb vb fb xb (tellF kd k l b F) (tellH kd k nl H)) := hD7
                      clear hD7
                      go_wp2_with fail
                      exact ⟨⟨i + 1, _, _, by simp, by omega, HD7.out, HFT2.out⟩, by simp [intOf]; omega⟩
                    · go_wp2_with fail
                      refine (sameB HR.out.1 (HR.out.2.up (by omega)) [120] (by decide)).mono ?_
                      rintro e w20 ⟨rfl, hb20⟩
                      go_wp2_with fail
                      go_ret
                      exact ⟨rfl, hbw.trans (hb20.mono hbw.size)⟩
end Go.Proofs.Ytikogljojnapaaa
