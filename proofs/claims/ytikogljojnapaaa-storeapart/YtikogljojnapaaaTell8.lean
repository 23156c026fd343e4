/- A store is told something beside another of the document's: the walk. -/
import Derived.Test.YtikogljojnapaaaTell8a
namespace Go.Proofs.Ytikogljojnapaaa
open Go.RowKit

variable {W : World} {K : Nat → Prop} {sb vb fb xb : Nat} {V P : Vrs} {A : List Txt} {G Q : Fns} {vv av fv : Value}
set_option maxRecDepth 100000 in
set_option maxHeartbeats 16000000 in
theorem tell_weak (ho : Opw W K sb vb fb xb V G vv av fv P A Q) (N : Nat) (hN : N ≤ 999) (hf : Fit (cont V) (cont G) N) (hPl : P.length < 60000) (hQl : Q.length < 60000) (hrq : Ris (cont Q)) (hgl : ∀ k, (rgetL P A k).length ≤ 20) (hAl : A.length ≤ 20) (kd : Int) (k : Txt) (lv : Value) (l : List Txt) (b : Bool) (pv : Value) (nl : List Nd) (hlt : Tx W lv l) (hnt : NdAt W pv nl) (hll : l.length ≤ 20) (hnl : nl.length ≤ 20) (hk : k.length ≤ maxLen) :
    Calls Try.prog 11 #[sP sb, xP xb, .agg (doC kd k lv b pv)] W (Left (N + 1) W K sb vb fb xb) := by
  obtain ⟨adl, capl, rfl⟩ := hlt.form
  obtain ⟨adp, capp, rfl⟩ := hnt.form
  have HO : Hid (∀ W', Below W.heap.size W W' → Opw W' K sb vb fb xb V G vv av fv P A Q) := fun W' hb => ho.below hb
  have HTX : Hid (∀ W', Below W.heap.size W W' → Tx W' (.slice adl l.length capl) l) := fun W' hb => hlt.below hb (Nat.le_refl _)
  have HNT : Hid (∀ W', Below W.heap.size W W' → NdAt W' (.slice adp nl.length capp) nl) := fun W' hb => hnt.below hb (Nat.le_refl _)
  have HKL : Hid (∀ i, K i → i < W.heap.size) := ho.s.lt
  have HVL : Hid (V.length < 4294967296 ∧ G.length < 4294967296 ∧ P.length < 60000 ∧ Q.length < 60000) := by
    have e1 : V.length = (cont V).length := (cont_length V).symm
    have e2 : G.length = (cont G).length := (cont_length G).symm
    have := hf.fl
    have := hf.hl
    unfold Hid
    omega
  have HLB : Hid (l.length * 16 ≤ big) := little (by omega)
  have HRQ : Hid ((cont Q).Pairwise fun p q => bytesBefore p.1 q.1 = true) := hrq
  have HFT : Hid (Fit (cont V) (cont G) N) := hf
  have hga : (getM V k nilT).2.length ≤ 20 := by
    rw [← cont_get V k (.slice none 0 0) []]
    exact getM_small hf.fs k
  have hgA : (getM V star nilT).2.length ≤ 20 := by
    rw [← cont_get V star (.slice none 0 0) []]
    exact getM_small hf.fs star
  have hgr := hgl k
  have HFP : Hid (∀ (k : Txt) (u : Value) (l : List Txt), k.length ≤ maxLen → l.length ≤ 20 → Fit (cont (putM V k (u, l))) (cont G) (N + 1)) := fun k u l hk hl => by
    rw [cont_put]
    exact fit_put hf hk hl
  have HFU : Hid (∀ (k : Txt) (u : Value), Fit (cont (unsM V k u)) (cont G) (N + 1)) := fun k u => by
    rw [cont_uns]
    exact fit_uns hf k
  have HFF : Hid (∀ (u : Value), Fit (cont V) (cont (putM G k (u, nl))) (N + 1)) := fun u => by
    rw [cont_put]
    exact ⟨Nat.le_succ_of_le hf.fl, Nat.le_trans (length_putM _ _ _) (Nat.succ_le_succ hf.hl), hf.fs, fun p hp => by
      rcases mem_putM hp with rfl | hp
      · exact ⟨hk, hnl⟩
      · exact hf.hs p hp⟩
  clear ho hlt hnt hf hrq hgl hPl hQl
  obtain ⟨wA, hwA⟩ : ∃ wA, wA = W.alloc (.cells (doC kd k (.slice adl l.length capl) b (.slice adp nl.length capp)) 40) := ⟨_, rfl⟩
  have hbA : Below W.heap.size W wA := by rw [hwA]; exact below_new W _
  have CA : Cel wA W.heap.size 40 (doC kd k (.slice adl l.length capl) b (.slice adp nl.length capp)) := by rw [hwA]; exact Cel.new W 40 _
  have xA := CA.cell 2
  by_cases k1 : kd = 1
  · subst k1
    go_enter Try.func11, Try.ntmps11
    go_upto_region 1 with fail
    rw [← hwA]
    clear hwA
    go_wp2_with fail
    refine (texts_any _ l wA (HTX.out _ hbA) (by omega)).mono ?_
    rintro e w1 ⟨mv, rfl, hom, hb1'⟩
    have hb1 : Below W.heap.size W w1 := hbA.trans (hb1'.mono hbA.size)
    have C1 := CA.turn (Turn.ofBelow (S := fun _ => False) hb1') (fun h => h)
    have x1 := C1.cell 4
    obtain ⟨adm, capm, rfl⟩ := owns_slice hom
    have HM1 : Hid (w1.ownsRow W.heap.size 9 1 (.slice adm l.length capm) l.length (txV l)) := owns_lower hom hbA.size
    clear hom hb1' CA xA
    go_wp2_with fail
    refine (nodes_any _ nl w1 (HNT.out _ hb1) (by omega)).mono ?_
    rintro e w2 ⟨nv, rfl, hon, hb2'⟩
    have hb2 : Below W.heap.size W w2 := hb1.trans (hb2'.mono hb1.size)
    have HC2 : Hid (Cel w2 W.heap.size 40 (doC 1 k (.slice adl l.length capl) b (.slice adp nl.length capp))) := C1.turn (Turn.ofBelow (S := fun _ => False) hb2') (fun h => h)
    have x2 : w2.cell? ⟨W.heap.size, 0, none⟩ = some (.int .i64 1) := HC2.out.cell 0
    obtain ⟨adn, capn, rfl⟩ := owns_slice hon
    have HM2 : Hid (w2.ownsRow W.heap.size 9 1 (.slice adm l.length capm) l.length (txV l)) := owns_turn HM1.out (Turn.ofBelow (S := fun _ => False) hb2') (fun _ _ h => h)
    have HN2 : Hid (w2.ownsRow W.heap.size 58 5 (.slice adn nl.length capn) nl.length (ndCs nl)) := owns_lower hon hb1.size
    have HO2 : Hid (Opw w2 K sb vb fb xb V G vv av fv P A Q) := HO.out _ hb2
    clear hon hb2' C1 x1 HM1
    go_upto_region 7 with fail
    have HOd : Hid (Opw w2.drew K sb vb fb xb V G vv av fv P A Q) := HO2.out.below ((Below.refl _ w2).drew)
    have hS0 : ToldD W.heap.size 1 k (.slice adl l.length capl) b (.slice adp nl.length capp) (World.drew w2) := HC2.out
    refine wp_region_held (S := ToldD W.heap.size 1 k (.slice adl l.length capl) b (.slice adp nl.length capp)) (by kernel_rfl) ?_
    change wpAnyH _ _ _ _ _ _ _ _ (World.drew _)
    refine wpAnyH_take (i := 0) (v := sP sb) rfl (by kernel_rfl) (by kernel_rfl) (by kernel_rfl) (fun _ _ _ h => h) (Yields.yieldsIf (Or.inl ⟨by rfl, by intro wz; go_simp⟩)) hS0 ?_
    try simp only [Act.put, List.getElem_toArray, List.getElem_cons_zero, List.setIfInBounds_toArray, List.set_cons_zero, List.set_cons_succ]
    refine wpAnyH_take (i := 1) (v := sP sb) rfl (by kernel_rfl) (by kernel_rfl) (by kernel_rfl) (fun _ _ _ h => h) (Yields.yieldsIf (Or.inl ⟨by rfl, by intro wz; go_simp⟩)) hS0 ?_
    try simp only [Act.put, List.getElem_toArray, List.getElem_cons_succ, List.getElem_cons_zero, List.setIfInBounds_toArray, List.set_cons_zero, List.set_cons_succ]
    refine wpAnyH_take (i := 2) (v := sP sb) rfl (by kernel_rfl) (by kernel_rfl) (by kernel_rfl) (fun _ _ _ h => h) (Yields.yieldsIf (Or.inl ⟨by rfl, by intro wz; go_simp⟩)) hS0 ?_
    try simp only [Act.put, List.getElem_toArray, List.getElem_cons_succ, List.getElem_cons_zero, List.setIfInBounds_toArray, List.set_cons_zero, List.set_cons_succ]
    refine wpAnyH_take (i := 3) (v := .pointer (some ⟨W.heap.size, 1, none⟩)) rfl (by kernel_rfl) (by kernel_rfl) (by kernel_rfl) (fun _ _ _ h => h) (Yields.yieldsIf (Or.inl ⟨by rfl, by intro wz; go_simp⟩)) hS0 ?_
    try simp only [Act.put, List.getElem_toArray, List.getElem_cons_succ, List.getElem_cons_zero, List.setIfInBounds_toArray, List.set_cons_zero, List.set_cons_succ]
    refine wpAnyH_take (i := 4) (v := str k) rfl (by kernel_rfl) (by kernel_rfl) (by kernel_rfl) (fun _ _ _ h => h) (Or.inl ⟨by rfl, fun wz hS => by have s1 := Cel.cell (Hid.out hS) 1; go_simp⟩) hS0 ?_
    try simp only [Act.put, List.getElem_toArray, List.getElem_cons_succ, List.getElem_cons_zero, List.setIfInBounds_toArray, List.set_cons_zero, List.set_cons_succ]
    refine wpAnyH_take (i := 5) (v := .slice adm l.length capm) rfl (by kernel_rfl) (by kernel_rfl) (by kernel_rfl) (fun _ _ _ h => h) (Yields.yieldsIf (Or.inl ⟨by rfl, by intro wz; go_simp⟩)) hS0 ?_
    try simp only [Act.put, List.getElem_toArray, List.getElem_cons_succ, List.getElem_cons_zero, List.setIfInBounds_toArray, List.set_cons_zero, List.set_cons_succ]
    refine wpAnyH_ready (rs := [6]) (by kernel_rfl) (by simp) ?_
    refine AllReadyH.cons rfl (fun K' hK => ?_) AllReadyH.nil
    go_simp
    refine (set_any HOd.out.s k hk _ l (tx_b (Tx.owned HM2.out) ((Below.refl _ w2).drew)) HLB.out HVL.out.1).mono ?_
    rintro e w3 ⟨rfl, u3, K3, h3, hs3⟩
    have CW3 : ToldD W.heap.size 1 k (.slice adl l.length capl) b (.slice adp nl.length capp) w3 := HOd.out.cel hs3.1 (show Cel w2.drew W.heap.size 40 (doC 1 k (.slice adl l.length capl) b (.slice adp nl.length capp)) from HC2.out)
    obtain ⟨_, hB3⟩ := Sto.both HOd.out.s HOd.out.r h3 hs3
    have HB3 : Hid _ := hB3
    have HTX3 : Hid (Tx w3 (.slice adl l.length capl) l) := HOd.out.tx hs3.1 (HTX.out _ (hb2.drew))
    have HNT3 : Hid (NdAt w3 (.slice adp nl.length capp) nl) := HOd.out.nd hs3.1 (HNT.out _ (hb2.drew))
    have H3 : Hid _ := h3
    have HS3 : Hid (Stp vb fb w2.drew K w3 K3) := hs3
    refine hK.out _ _ CW3 (fun _ => ?_)
    clear hK K' hS0
    have hS0 := CW3
    try simp only [Act.put, List.getElem_toArray, List.getElem_cons_succ, List.getElem_cons_zero, List.setIfInBounds_toArray, List.set_cons_zero, List.set_cons_succ]
    refine wpAnyH_done (by kernel_rfl) ?_ _
    clear h3 hs3 hB3 x2
    have y1 := CW3.out.cell 1
    have y2 := CW3.out.cell 2
    have y3 := CW3.out.cell 3
    have y4 := CW3.out.cell 4
    go_wp2_with fail
    refine (rset_any HB3.out k _ l HTX3.out (by omega) HVL.out.2.2.1).mono ?_
    rintro e w4 ⟨rfl, vv4, av4, u4, K4, h4, hs4⟩
    have HD4 : Hid (Sto w4 K4 sb vb fb (putM V k (u3, l)) G ∧ Stq vb fb xb w2 K w4 K4) := Stq.undrew (wk HOd.out H3.out HS3.out h4 hs4)
    clear h4 hs4 hS0 CW3 y1 y2 y3 y4
    obtain ⟨hD4, hs4⟩ := HD4.out
    have HSP : Hid (SplW W.heap.size w2.heap.size w4 K4 sb vb fb (putM V k (u3, l)) G (.slice adm l.length capm) (.slice adn nl.length capn) l.length nl.length w4) := SplW.of hb2 HKL.out HM2.out HN2.out HO2.out hD4 hs4
    clear hD4 hs4
    go_wp2_with fail
    go_loopw [14] (fun v14 wr => ∃ i : Nat, v14 = .int .i64 i ∧ i ≤ l.length ∧ Hid (SplW W.heap.size w2.heap.size w4 K4 sb vb fb (putM V k (u3, l)) G (.slice adm l.length capm) (.slice adn nl.length capn) l.length nl.length wr)) (fun v14 _ => l.length - (intOf v14).toNat)
    case atStart => exact ⟨0, rfl, Nat.zero_le _, HSP.out⟩
    case round =>
      obtain ⟨i, rfl, hi, HI⟩ := hrel
      by_cases hil : i < l.length
      · obtain ⟨g, cap, u, hv, cu, fu, hx⟩ := HI.out.one hil
        cases hv
        have HX : Hid _ := hx (str [115, 112, 111, 105, 108, 116])
        clear hx
        go_wp2_with fail
        exact ⟨⟨i + 1, by simp, by omega, HX.out⟩, by simp [intOf]; omega⟩
      · have hie : i = l.length := by omega
        subst hie
        go_wp2_with fail
        go_loopw [15] (fun v15 wr => ∃ i : Nat, v15 = .int .i64 i ∧ i ≤ nl.length ∧ Hid (SplW W.heap.size w2.heap.size w4 K4 sb vb fb (putM V k (u3, l)) G (.slice adm l.length capm) (.slice adn nl.length capn) l.length nl.length wr)) (fun v15 _ => nl.length - (intOf v15).toNat)
        case atStart => exact ⟨0, rfl, Nat.zero_le _, HI.out⟩
        case round =>
          obtain ⟨j, rfl, hj, HJ⟩ := hrel
          by_cases hjl : j < nl.length
          · obtain ⟨g, cap, u, hv, cu, fu, hx⟩ := HJ.out.two hjl
            cases hv
            have HX : Hid _ := hx (str [115, 112, 111, 105, 108, 116])
            clear hx
            go_wp2_with fail
            exact ⟨⟨j + 1, by simp, by omega, HX.out⟩, by simp [intOf]; omega⟩
          · have hje : j = nl.length := by omega
            subst hje
            go_wp2_with fail
            go_ret
            obtain ⟨KE, hE1, hE2⟩ := HJ.out.fin hb2 HD4.out.2
            exact ⟨true, KE, _, _, rfl, hE1, HFP.out k u3 l hk hll, hE2⟩
  by_cases k2 : kd = 2
  · subst k2
    go_enter Try.func11, Try.ntmps11
    go_upto_region 1 with fail
    rw [← hwA]
    clear hwA
    go_wp2_with fail
    refine (texts_any _ l wA (HTX.out _ hbA) (by omega)).mono ?_
    rintro e w1 ⟨mv, rfl, hom, hb1'⟩
    have hb1 : Below W.heap.size W w1 := hbA.trans (hb1'.mono hbA.size)
    have C1 := CA.turn (Turn.ofBelow (S := fun _ => False) hb1') (fun h => h)
    have x1 := C1.cell 4
    obtain ⟨adm, capm, rfl⟩ := owns_slice hom
    have HM1 : Hid (w1.ownsRow W.heap.size 9 1 (.slice adm l.length capm) l.length (txV l)) := owns_lower hom hbA.size
    clear hom hb1' CA xA
    go_wp2_with fail
    refine (nodes_any _ nl w1 (HNT.out _ hb1) (by omega)).mono ?_
    rintro e w2 ⟨nv, rfl, hon, hb2'⟩
    have hb2 : Below W.heap.size W w2 := hb1.trans (hb2'.mono hb1.size)
    have HC2 : Hid (Cel w2 W.heap.size 40 (doC 2 k (.slice adl l.length capl) b (.slice adp nl.length capp))) := C1.turn (Turn.ofBelow (S := fun _ => False) hb2') (fun h => h)
    have x2 : w2.cell? ⟨W.heap.size, 0, none⟩ = some (.int .i64 2) := HC2.out.cell 0
    obtain ⟨adn, capn, rfl⟩ := owns_slice hon
    have HM2 : Hid (w2.ownsRow W.heap.size 9 1 (.slice adm l.length capm) l.length (txV l)) := owns_turn HM1.out (Turn.ofBelow (S := fun _ => False) hb2') (fun _ _ h => h)
    have HN2 : Hid (w2.ownsRow W.heap.size 58 5 (.slice adn nl.length capn) nl.length (ndCs nl)) := owns_lower hon hb1.size
    have HO2 : Hid (Opw w2 K sb vb fb xb V G vv av fv P A Q) := HO.out _ hb2
    clear hon hb2' C1 x1 HM1
    go_upto_region 10 with fail
    have HOd : Hid (Opw w2.drew K sb vb fb xb V G vv av fv P A Q) := HO2.out.below ((Below.refl _ w2).drew)
    have hS0 : ToldD W.heap.size 2 k (.slice adl l.length capl) b (.slice adp nl.length capp) (World.drew w2) := HC2.out
    refine wp_region_held (S := ToldD W.heap.size 2 k (.slice adl l.length capl) b (.slice adp nl.length capp)) (by kernel_rfl) ?_
    change wpAnyH _ _ _ _ _ _ _ _ (World.drew _)
    refine wpAnyH_take (i := 0) (v := sP sb) rfl (by kernel_rfl) (by kernel_rfl) (by kernel_rfl) (fun _ _ _ h => h) (Yields.yieldsIf (Or.inl ⟨by rfl, by intro wz; go_simp⟩)) hS0 ?_
    try simp only [Act.put, List.getElem_toArray, List.getElem_cons_zero, List.setIfInBounds_toArray, List.set_cons_zero, List.set_cons_succ]
    refine wpAnyH_take (i := 1) (v := sP sb) rfl (by kernel_rfl) (by kernel_rfl) (by kernel_rfl) (fun _ _ _ h => h) (Yields.yieldsIf (Or.inl ⟨by rfl, by intro wz; go_simp⟩)) hS0 ?_
    try simp only [Act.put, List.getElem_toArray, List.getElem_cons_succ, List.getElem_cons_zero, List.setIfInBounds_toArray, List.set_cons_zero, List.set_cons_succ]
    refine wpAnyH_take (i := 2) (v := sP sb) rfl (by kernel_rfl) (by kernel_rfl) (by kernel_rfl) (fun _ _ _ h => h) (Yields.yieldsIf (Or.inl ⟨by rfl, by intro wz; go_simp⟩)) hS0 ?_
    try simp only [Act.put, List.getElem_toArray, List.getElem_cons_succ, List.getElem_cons_zero, List.setIfInBounds_toArray, List.set_cons_zero, List.set_cons_succ]
    refine wpAnyH_take (i := 3) (v := .pointer (some ⟨W.heap.size, 1, none⟩)) rfl (by kernel_rfl) (by kernel_rfl) (by kernel_rfl) (fun _ _ _ h => h) (Yields.yieldsIf (Or.inl ⟨by rfl, by intro wz; go_simp⟩)) hS0 ?_
    try simp only [Act.put, List.getElem_toArray, List.getElem_cons_succ, List.getElem_cons_zero, List.setIfInBounds_toArray, List.set_cons_zero, List.set_cons_succ]
    refine wpAnyH_take (i := 4) (v := str k) rfl (by kernel_rfl) (by kernel_rfl) (by kernel_rfl) (fun _ _ _ h => h) (Or.inl ⟨by rfl, fun wz hS => by have s1 := Cel.cell (Hid.out hS) 1; go_simp⟩) hS0 ?_
    try simp only [Act.put, List.getElem_toArray, List.getElem_cons_succ, List.getElem_cons_zero, List.setIfInBounds_toArray, List.set_cons_zero, List.set_cons_succ]
    refine wpAnyH_ready (rs := [5]) (by kernel_rfl) (by simp) ?_
    refine AllReadyH.cons rfl (fun K' hK => ?_) AllReadyH.nil
    go_simp
    refine (unset_any HOd.out.s k hk HVL.out.1).mono ?_
    rintro e w3 ⟨rfl, u3, K3, h3, hs3⟩
    have CW3 : ToldD W.heap.size 2 k (.slice adl l.length capl) b (.slice adp nl.length capp) w3 := HOd.out.cel hs3.1 (show Cel w2.drew W.heap.size 40 (doC 2 k (.slice adl l.length capl) b (.slice adp nl.length capp)) from HC2.out)
    obtain ⟨_, hB3⟩ := Sto.both HOd.out.s HOd.out.r h3 hs3
    have HB3 : Hid _ := hB3
    have HTX3 : Hid (Tx w3 (.slice adl l.length capl) l) := HOd.out.tx hs3.1 (HTX.out _ (hb2.drew))
    have HNT3 : Hid (NdAt w3 (.slice adp nl.length capp) nl) := HOd.out.nd hs3.1 (HNT.out _ (hb2.drew))
    have H3 : Hid _ := h3
    have HS3 : Hid (Stp vb fb w2.drew K w3 K3) := hs3
    refine hK.out _ _ CW3 (fun _ => ?_)
    clear hK K' hS0
    have hS0 := CW3
    try simp only [Act.put, List.getElem_toArray, List.getElem_cons_succ, List.getElem_cons_zero, List.setIfInBounds_toArray, List.set_cons_zero, List.set_cons_succ]
    refine wpAnyH_done (by kernel_rfl) ?_ _
    clear h3 hs3 hB3 x2
    have y1 := CW3.out.cell 1
    have y2 := CW3.out.cell 2
    have y3 := CW3.out.cell 3
    have y4 := CW3.out.cell 4
    go_wp2_with fail
    refine (runset_any HB3.out k (by have := HVL.out; omega)).mono ?_
    rintro e w4 ⟨rfl, vv4, av4, K4, h4, hs4⟩
    have HD4 : Hid (Sto w4 K4 sb vb fb (unsM V k u3) G ∧ Stq vb fb xb w2 K w4 K4) := Stq.undrew (wk HOd.out H3.out HS3.out h4 hs4)
    clear h4 hs4 hS0 CW3 y1 y2 y3 y4
    obtain ⟨hD4, hs4⟩ := HD4.out
    have HSP : Hid (SplW W.heap.size w2.heap.size w4 K4 sb vb fb (unsM V k u3) G (.slice adm l.length capm) (.slice adn nl.length capn) l.length nl.length w4) := SplW.of hb2 HKL.out HM2.out HN2.out HO2.out hD4 hs4
    clear hD4 hs4
    go_wp2_with fail
    go_loopw [14] (fun v14 wr => ∃ i : Nat, v14 = .int .i64 i ∧ i ≤ l.length ∧ Hid (SplW W.heap.size w2.heap.size w4 K4 sb vb fb (unsM V k u3) G (.slice adm l.length capm) (.slice adn nl.length capn) l.length nl.length wr)) (fun v14 _ => l.length - (intOf v14).toNat)
    case atStart => exact ⟨0, rfl, Nat.zero_le _, HSP.out⟩
    case round =>
      obtain ⟨i, rfl, hi, HI⟩ := hrel
      by_cases hil : i < l.length
      · obtain ⟨g, cap, u, hv, cu, fu, hx⟩ := HI.out.one hil
        cases hv
        have HX : Hid _ := hx (str [115, 112, 111, 105, 108, 116])
        clear hx
        go_wp2_with fail
        exact ⟨⟨i + 1, by simp, by omega, HX.out⟩, by simp [intOf]; omega⟩
      · have hie : i = l.length := by omega
        subst hie
        go_wp2_with fail
        go_loopw [15] (fun v15 wr => ∃ i : Nat, v15 = .int .i64 i ∧ i ≤ nl.length ∧ Hid (SplW W.heap.size w2.heap.size w4 K4 sb vb fb (unsM V k u3) G (.slice adm l.length capm) (.slice adn nl.length capn) l.length nl.length wr)) (fun v15 _ => nl.length - (intOf v15).toNat)
        case atStart => exact ⟨0, rfl, Nat.zero_le _, HI.out⟩
        case round =>
          obtain ⟨j, rfl, hj, HJ⟩ := hrel
          by_cases hjl : j < nl.length
          · obtain ⟨g, cap, u, hv, cu, fu, hx⟩ := HJ.out.two hjl
            cases hv
            have HX : Hid _ := hx (str [115, 112, 111, 105, 108, 116])
            clear hx
            go_wp2_with fail
            exact ⟨⟨j + 1, by simp, by omega, HX.out⟩, by simp [intOf]; omega⟩
          · have hje : j = nl.length := by omega
            subst hje
            go_wp2_with fail
            go_ret
            obtain ⟨KE, hE1, hE2⟩ := HJ.out.fin hb2 HD4.out.2
            exact ⟨true, KE, _, _, rfl, hE1, HFU.out k u3, hE2⟩
  by_cases k3 : kd = 3
  · subst k3
    cases b with
    | true =>
      go_enter Try.func11, Try.ntmps11
      go_upto_region 1 with fail
      rw [← hwA]
      clear hwA
      go_wp2_with fail
      refine (texts_any _ l wA (HTX.out _ hbA) (by omega)).mono ?_
      rintro e w1 ⟨mv, rfl, hom, hb1'⟩
      have hb1 : Below W.heap.size W w1 := hbA.trans (hb1'.mono hbA.size)
      have C1 := CA.turn (Turn.ofBelow (S := fun _ => False) hb1') (fun h => h)
      have x1 := C1.cell 4
      obtain ⟨adm, capm, rfl⟩ := owns_slice hom
      have HM1 : Hid (w1.ownsRow W.heap.size 9 1 (.slice adm l.length capm) l.length (txV l)) := owns_lower hom hbA.size
      clear hom hb1' CA xA
      go_wp2_with fail
      refine (nodes_any _ nl w1 (HNT.out _ hb1) (by omega)).mono ?_
      rintro e w2 ⟨nv, rfl, hon, hb2'⟩
      have hb2 : Below W.heap.size W w2 := hb1.trans (hb2'.mono hb1.size)
      have HC2 : Hid (Cel w2 W.heap.size 40 (doC 3 k (.slice adl l.length capl) true (.slice adp nl.length capp))) := C1.turn (Turn.ofBelow (S := fun _ => False) hb2') (fun h => h)
      have x2 : w2.cell? ⟨W.heap.size, 0, none⟩ = some (.int .i64 3) := HC2.out.cell 0
      obtain ⟨adn, capn, rfl⟩ := owns_slice hon
      have HM2 : Hid (w2.ownsRow W.heap.size 9 1 (.slice adm l.length capm) l.length (txV l)) := owns_turn HM1.out (Turn.ofBelow (S := fun _ => False) hb2') (fun _ _ h => h)
      have HN2 : Hid (w2.ownsRow W.heap.size 58 5 (.slice adn nl.length capn) nl.length (ndCs nl)) := owns_lower hon hb1.size
      have HO2 : Hid (Opw w2 K sb vb fb xb V G vv av fv P A Q) := HO.out _ hb2
      clear hon hb2' C1 x1 HM1
      go_upto_region 13 with fail
      have HOd : Hid (Opw w2.drew K sb vb fb xb V G vv av fv P A Q) := HO2.out.below ((Below.refl _ w2).drew)
      have hS0 : ToldD W.heap.size 3 k (.slice adl l.length capl) true (.slice adp nl.length capp) (World.drew w2) := HC2.out
      refine wp_region_held (S := ToldD W.heap.size 3 k (.slice adl l.length capl) true (.slice adp nl.length capp)) (by kernel_rfl) ?_
      change wpAnyH _ _ _ _ _ _ _ _ (World.drew _)
      refine wpAnyH_take (i := 0) (v := sP sb) rfl (by kernel_rfl) (by kernel_rfl) (by kernel_rfl) (fun _ _ _ h => h) (Yields.yieldsIf (Or.inl ⟨by rfl, by intro wz; go_simp⟩)) hS0 ?_
      try simp only [Act.put, List.getElem_toArray, List.getElem_cons_zero, List.setIfInBounds_toArray, List.set_cons_zero, List.set_cons_succ]
      refine wpAnyH_take (i := 1) (v := sP sb) rfl (by kernel_rfl) (by kernel_rfl) (by kernel_rfl) (fun _ _ _ h => h) (Yields.yieldsIf (Or.inl ⟨by rfl, by intro wz; go_simp⟩)) hS0 ?_
      try simp only [Act.put, List.getElem_toArray, List.getElem_cons_succ, List.getElem_cons_zero, List.setIfInBounds_toArray, List.set_cons_zero, List.set_cons_succ]
      refine wpAnyH_take (i := 2) (v := sP sb) rfl (by kernel_rfl) (by kernel_rfl) (by kernel_rfl) (fun _ _ _ h => h) (Yields.yieldsIf (Or.inl ⟨by rfl, by intro wz; go_simp⟩)) hS0 ?_
      try simp only [Act.put, List.getElem_toArray, List.getElem_cons_succ, List.getElem_cons_zero, List.setIfInBounds_toArray, List.set_cons_zero, List.set_cons_succ]
      refine wpAnyH_take (i := 3) (v := .pointer (some ⟨W.heap.size, 1, none⟩)) rfl (by kernel_rfl) (by kernel_rfl) (by kernel_rfl) (fun _ _ _ h => h) (Yields.yieldsIf (Or.inl ⟨by rfl, by intro wz; go_simp⟩)) hS0 ?_
      try simp only [Act.put, List.getElem_toArray, List.getElem_cons_succ, List.getElem_cons_zero, List.setIfInBounds_toArray, List.set_cons_zero, List.set_cons_succ]
      refine wpAnyH_take (i := 4) (v := str k) rfl (by kernel_rfl) (by kernel_rfl) (by kernel_rfl) (fun _ _ _ h => h) (Or.inl ⟨by rfl, fun wz hS => by have s1 := Cel.cell (Hid.out hS) 1; go_simp⟩) hS0 ?_
      try simp only [Act.put, List.getElem_toArray, List.getElem_cons_succ, List.getElem_cons_zero, List.setIfInBounds_toArray, List.set_cons_zero, List.set_cons_succ]
      refine wpAnyH_take (i := 5) (v := .pointer (some ⟨W.heap.size, 3, none⟩)) rfl (by kernel_rfl) (by kernel_rfl) (by kernel_rfl) (fun _ _ _ h => h) (Yields.yieldsIf (Or.inl ⟨by rfl, by intro wz; go_simp⟩)) hS0 ?_
      try simp only [Act.put, List.getElem_toArray, List.getElem_cons_succ, List.getElem_cons_zero, List.setIfInBounds_toArray, List.set_cons_zero, List.set_cons_succ]
      refine wpAnyH_take (i := 6) (v := .bool true) rfl (by kernel_rfl) (by kernel_rfl) (by kernel_rfl) (fun _ _ _ h => h) (Or.inl ⟨by rfl, fun wz hS => by have s1 := Cel.cell (Hid.out hS) 3; go_simp⟩) hS0 ?_
      try simp only [Act.put, List.getElem_toArray, List.getElem_cons_succ, List.getElem_cons_zero, List.setIfInBounds_toArray, List.set_cons_zero, List.set_cons_succ]
      refine wpAnyH_take (i := 7) (v := .slice adm l.length capm) rfl (by kernel_rfl) (by kernel_rfl) (by kernel_rfl) (fun _ _ _ h => h) (Yields.yieldsIf (Or.inl ⟨by rfl, by intro wz; go_simp⟩)) hS0 ?_
      try simp only [Act.put, List.getElem_toArray, List.getElem_cons_succ, List.getElem_cons_zero, List.setIfInBounds_toArray, List.set_cons_zero, List.set_cons_succ]
      refine wpAnyH_ready (rs := [8]) (by kernel_rfl) (by simp) ?_
      refine AllReadyH.cons rfl (fun K' hK => ?_) AllReadyH.nil
      go_simp
      refine (swap_any HOd.out.s k hk true _ l (tx_b (Tx.owned HM2.out) ((Below.refl _ w2).drew)) HLB.out HVL.out.1).mono ?_
      rintro e w3 ⟨va, rfl, hoa, u3, K3, h3, hs3⟩
      have CW3 : ToldD W.heap.size 3 k (.slice adl l.length capl) true (.slice adp nl.length capp) w3 := HOd.out.cel hs3.1 (show Cel w2.drew W.heap.size 40 (doC 3 k (.slice adl l.length capl) true (.slice adp nl.length capp)) from HC2.out)
      have HA3 : Hid (Tx w3 va (getM V k nilT).2) := Tx.owned hoa
      obtain ⟨_, hB3⟩ := Sto.both HOd.out.s HOd.out.r h3 hs3
      have HB3 : Hid _ := hB3
      have HTX3 : Hid (Tx w3 (.slice adl l.length capl) l) := HOd.out.tx hs3.1 (HTX.out _ (hb2.drew))
      have HNT3 : Hid (NdAt w3 (.slice adp nl.length capp) nl) := HOd.out.nd hs3.1 (HNT.out _ (hb2.drew))
      have H3 : Hid _ := h3
      have HS3 : Hid (Stp vb fb w2.drew K w3 K3) := hs3
      refine hK.out _ _ CW3 (fun _ => ?_)
      clear hK K' hS0
      have hS0 := CW3
      try simp only [Act.put, List.getElem_toArray, List.getElem_cons_succ, List.getElem_cons_zero, List.setIfInBounds_toArray, List.set_cons_zero, List.set_cons_succ]
      have HSW : Hid (Sto w3 K3 sb vb fb (putM V k (u3, l)) G) := H3.out
      obtain ⟨ba, hba⟩ : ∃ ba, hasM V k = ba := ⟨_, rfl⟩
      rw [hba]
      clear hba
      obtain ⟨La, hLa⟩ : ∃ La, (getM V k nilT).2 = La := ⟨_, rfl⟩
      rw [hLa] at HA3 hga
      clear hLa
      refine wpAnyH_take (i := 9) (v := .tuple #[va, .bool ba]) rfl (by kernel_rfl) (by kernel_rfl) (by kernel_rfl) (fun _ _ _ h => h) (Yields.yieldsIf (Or.inl ⟨by rfl, by intro wz; go_simp⟩)) hS0 ?_
      try simp only [Act.put, List.getElem_toArray, List.getElem_cons_succ, List.getElem_cons_zero, List.setIfInBounds_toArray, List.set_cons_zero, List.set_cons_succ]
      refine wpAnyH_take (i := 10) (v := va) rfl (by kernel_rfl) (by kernel_rfl) (by kernel_rfl) (fun _ _ _ h => h) (Yields.yieldsIf (Or.inl ⟨by rfl, by intro wz; go_simp⟩)) hS0 ?_
      try simp only [Act.put, List.getElem_toArray, List.getElem_cons_succ, List.getElem_cons_zero, List.setIfInBounds_toArray, List.set_cons_zero, List.set_cons_succ]
      refine wpAnyH_take (i := 11) (v := .bool ba) rfl (by kernel_rfl) (by kernel_rfl) (by kernel_rfl) (fun _ _ _ h => h) (Yields.yieldsIf (Or.inl ⟨by rfl, by intro wz; go_simp⟩)) hS0 ?_
      try simp only [Act.put, List.getElem_toArray, List.getElem_cons_succ, List.getElem_cons_zero, List.setIfInBounds_toArray, List.set_cons_zero, List.set_cons_succ]
      refine wpAnyH_take (i := 12) (v := va) rfl (by kernel_rfl) (by kernel_rfl) (by kernel_rfl) (fun _ _ _ h => h) (Yields.yieldsIf (Or.inl ⟨by rfl, by intro wz; go_simp⟩)) hS0 ?_
      try simp only [Act.put, List.getElem_toArray, List.getElem_cons_succ, List.getElem_cons_zero, List.setIfInBounds_toArray, List.set_cons_zero, List.set_cons_succ]
      refine wpAnyH_take (i := 13) (v := .bool ba) rfl (by kernel_rfl) (by kernel_rfl) (by kernel_rfl) (fun _ _ _ h => h) (Yields.yieldsIf (Or.inl ⟨by rfl, by intro wz; go_simp⟩)) hS0 ?_
      try simp only [Act.put, List.getElem_toArray, List.getElem_cons_succ, List.getElem_cons_zero, List.setIfInBounds_toArray, List.set_cons_zero, List.set_cons_succ]
      refine wpAnyH_done (by kernel_rfl) ?_ _
      clear h3 hs3 hB3 x2 hoa
      have y1 := CW3.out.cell 1
      have y2 := CW3.out.cell 2
      have y3 := CW3.out.cell 3
      have y4 := CW3.out.cell 4
      go_wp2_with fail
      refine (rget_any HB3.out k (by have := HVL.out; omega)).mono ?_
      rintro e w3' ⟨rfl, hw3⟩
      obtain rfl := hw3.symm
      have HRV : Hid (Tx w3 (rgetV P av k) (rgetL P A k)) := HB3.out.got k
      obtain ⟨rv, hrv⟩ : ∃ rv, rgetV P av k = rv := ⟨_, rfl⟩
      obtain ⟨rb, hrb⟩ : ∃ rb, rgetB P k = rb := ⟨_, rfl⟩
      obtain ⟨Lr, hLr⟩ : ∃ Lr, rgetL P A k = Lr := ⟨_, rfl⟩
      rw [hrv, hLr] at HRV
      rw [hLr] at hgr
      rw [hrv, hrb]
      clear hrv hw3 hrb hLr
      by_cases hbb : ba = rb
      rotate_left
      · cases ba <;> cases rb
        · exact absurd rfl hbb
        · go_wp2_with fail
          go_ret
          exact ⟨false, K3, _, _, rfl, HSW.out, (HFP.out k u3 l hk hll), Stq.pre hb2 (Stq.undrew ⟨trivial, Stq.early HS3.out⟩).2⟩
        · go_wp2_with fail
          go_ret
          exact ⟨false, K3, _, _, rfl, HSW.out, (HFP.out k u3 l hk hll), Stq.pre hb2 (Stq.undrew ⟨trivial, Stq.early HS3.out⟩).2⟩
        · exact absurd rfl hbb
      · subst hbb
        have hbb : (ba != ba) = false := by simp
        go_wp2_with fail
        refine (sameTexts_any va rv La Lr w3 HA3.out HRV.out (by omega) (by omega)).mono ?_
        rintro e w3b ⟨rfl, hb3b⟩
        have CW4 := CW3.out.turn (Turn.ofBelow (S := fun _ => False) hb3b) (fun h => h)
        have y1 := CW4.cell 1
        have y2 := CW4.cell 2
        have y3 := CW4.cell 3
        have HB4 : Hid _ := HB3.out.below hb3b
        have HTX4 : Hid (Tx w3b (.slice adl l.length capl) l) := HTX3.out.below hb3b (Nat.le_refl _)
        have HS4 : Hid (Stp vb fb w2.drew K w3b K3) := HS3.out.trans (Stp.ofBelow hb3b)
        have H4 : Hid (Sto w3b K3 sb vb fb (putM V k (u3, l)) G) := HSW.out.below hb3b
        clear CW4
        cases hsm : decide (La = Lr) with
        | false =>
          go_wp2_with fail
          go_ret
          exact ⟨false, K3, _, _, rfl, H4.out, (HFP.out k u3 l hk hll), Stq.pre hb2 (Stq.undrew ⟨trivial, Stq.early HS4.out⟩).2⟩
        | true =>
          go_wp2_with fail
          refine (rset_any HB4.out k _ l HTX4.out (by omega) HVL.out.2.2.1).mono ?_
          rintro e w4 ⟨rfl, vv4, av4, u4, K4, h4, hs4⟩
          have HD4 : Hid (Sto w4 K4 sb vb fb (putM V k (u3, l)) G ∧ Stq vb fb xb w2 K w4 K4) := Stq.undrew (wk HOd.out H4.out HS4.out h4 hs4)
          clear h4 hs4 hS0 CW3 y1 y2 y3 y4
          obtain ⟨hD4, hs4⟩ := HD4.out
          have HSP : Hid (SplW W.heap.size w2.heap.size w4 K4 sb vb fb (putM V k (u3, l)) G (.slice adm l.length capm) (.slice adn nl.length capn) l.length nl.length w4) := SplW.of hb2 HKL.out HM2.out HN2.out HO2.out hD4 hs4
          clear hD4 hs4
          go_wp2_with fail
          go_loopw [14] (fun v14 wr => ∃ i : Nat, v14 = .int .i64 i ∧ i ≤ l.length ∧ Hid (SplW W.heap.size w2.heap.size w4 K4 sb vb fb (putM V k (u3, l)) G (.slice adm l.length capm) (.slice adn nl.length capn) l.length nl.length wr)) (fun v14 _ => l.length - (intOf v14).toNat)
          case atStart => exact ⟨0, rfl, Nat.zero_le _, HSP.out⟩
          case round =>
            obtain ⟨i, rfl, hi, HI⟩ := hrel
            by_cases hil : i < l.length
            · obtain ⟨g, cap, u, hv, cu, fu, hx⟩ := HI.out.one hil
              cases hv
              have HX : Hid _ := hx (str [115, 112, 111, 105, 108, 116])
              clear hx
              go_wp2_with fail
              exact ⟨⟨i + 1, by simp, by omega, HX.out⟩, by simp [intOf]; omega⟩
            · have hie : i = l.length := by omega
              subst hie
              go_wp2_with fail
              go_loopw [15] (fun v15 wr => ∃ i : Nat, v15 = .int .i64 i ∧ i ≤ nl.length ∧ Hid (SplW W.heap.size w2.heap.size w4 K4 sb vb fb (putM V k (u3, l)) G (.slice adm l.length capm) (.slice adn nl.length capn) l.length nl.length wr)) (fun v15 _ => nl.length - (intOf v15).toNat)
              case atStart => exact ⟨0, rfl, Nat.zero_le _, HI.out⟩
              case round =>
                obtain ⟨j, rfl, hj, HJ⟩ := hrel
                by_cases hjl : j < nl.length
                · obtain ⟨g, cap, u, hv, cu, fu, hx⟩ := HJ.out.two hjl
                  cases hv
                  have HX : Hid _ := hx (str [115, 112, 111, 105, 108, 116])
                  clear hx
                  go_wp2_with fail
                  exact ⟨⟨j + 1, by simp, by omega, HX.out⟩, by simp [intOf]; omega⟩
                · have hje : j = nl.length := by omega
                  subst hje
                  go_wp2_with fail
                  go_ret
                  obtain ⟨KE, hE1, hE2⟩ := HJ.out.fin hb2 HD4.out.2
                  exact ⟨true, KE, _, _, rfl, hE1, (HFP.out k u3 l hk hll), hE2⟩
    | false =>
      go_enter Try.func11, Try.ntmps11
      go_upto_region 1 with fail
      rw [← hwA]
      clear hwA
      go_wp2_with fail
      refine (texts_any _ l wA (HTX.out _ hbA) (by omega)).mono ?_
      rintro e w1 ⟨mv, rfl, hom, hb1'⟩
      have hb1 : Below W.heap.size W w1 := hbA.trans (hb1'.mono hbA.size)
      have C1 := CA.turn (Turn.ofBelow (S := fun _ => False) hb1') (fun h => h)
      have x1 := C1.cell 4
      obtain ⟨adm, capm, rfl⟩ := owns_slice hom
      have HM1 : Hid (w1.ownsRow W.heap.size 9 1 (.slice adm l.length capm) l.length (txV l)) := owns_lower hom hbA.size
      clear hom hb1' CA xA
      go_wp2_with fail
      refine (nodes_any _ nl w1 (HNT.out _ hb1) (by omega)).mono ?_
      rintro e w2 ⟨nv, rfl, hon, hb2'⟩
      have hb2 : Below W.heap.size W w2 := hb1.trans (hb2'.mono hb1.size)
      have HC2 : Hid (Cel w2 W.heap.size 40 (doC 3 k (.slice adl l.length capl) false (.slice adp nl.length capp))) := C1.turn (Turn.ofBelow (S := fun _ => False) hb2') (fun h => h)
      have x2 : w2.cell? ⟨W.heap.size, 0, none⟩ = some (.int .i64 3) := HC2.out.cell 0
      obtain ⟨adn, capn, rfl⟩ := owns_slice hon
      have HM2 : Hid (w2.ownsRow W.heap.size 9 1 (.slice adm l.length capm) l.length (txV l)) := owns_turn HM1.out (Turn.ofBelow (S := fun _ => False) hb2') (fun _ _ h => h)
      have HN2 : Hid (w2.ownsRow W.heap.size 58 5 (.slice adn nl.length capn) nl.length (ndCs nl)) := owns_lower hon hb1.size
      have HO2 : Hid (Opw w2 K sb vb fb xb V G vv av fv P A Q) := HO.out _ hb2
      clear hon hb2' C1 x1 HM1
      go_upto_region 13 with fail
      have HOd : Hid (Opw w2.drew K sb vb fb xb V G vv av fv P A Q) := HO2.out.below ((Below.refl _ w2).drew)
      have hS0 : ToldD W.heap.size 3 k (.slice adl l.length capl) false (.slice adp nl.length capp) (World.drew w2) := HC2.out
      refine wp_region_held (S := ToldD W.heap.size 3 k (.slice adl l.length capl) false (.slice adp nl.length capp)) (by kernel_rfl) ?_
      change wpAnyH _ _ _ _ _ _ _ _ (World.drew _)
      refine wpAnyH_take (i := 0) (v := sP sb) rfl (by kernel_rfl) (by kernel_rfl) (by kernel_rfl) (fun _ _ _ h => h) (Yields.yieldsIf (Or.inl ⟨by rfl, by intro wz; go_simp⟩)) hS0 ?_
      try simp only [Act.put, List.getElem_toArray, List.getElem_cons_zero, List.setIfInBounds_toArray, List.set_cons_zero, List.set_cons_succ]
      refine wpAnyH_take (i := 1) (v := sP sb) rfl (by kernel_rfl) (by kernel_rfl) (by kernel_rfl) (fun _ _ _ h => h) (Yields.yieldsIf (Or.inl ⟨by rfl, by intro wz; go_simp⟩)) hS0 ?_
      try simp only [Act.put, List.getElem_toArray, List.getElem_cons_succ, List.getElem_cons_zero, List.setIfInBounds_toArray, List.set_cons_zero, List.set_cons_succ]
      refine wpAnyH_take (i := 2) (v := sP sb) rfl (by kernel_rfl) (by kernel_rfl) (by kernel_rfl) (fun _ _ _ h => h) (Yields.yieldsIf (Or.inl ⟨by rfl, by intro wz; go_simp⟩)) hS0 ?_
      try simp only [Act.put, List.getElem_toArray, List.getElem_cons_succ, List.getElem_cons_zero, List.setIfInBounds_toArray, List.set_cons_zero, List.set_cons_succ]
      refine wpAnyH_take (i := 3) (v := .pointer (some ⟨W.heap.size, 1, none⟩)) rfl (by kernel_rfl) (by kernel_rfl) (by kernel_rfl) (fun _ _ _ h => h) (Yields.yieldsIf (Or.inl ⟨by rfl, by intro wz; go_simp⟩)) hS0 ?_
      try simp only [Act.put, List.getElem_toArray, List.getElem_cons_succ, List.getElem_cons_zero, List.setIfInBounds_toArray, List.set_cons_zero, List.set_cons_succ]
      refine wpAnyH_take (i := 4) (v := str k) rfl (by kernel_rfl) (by kernel_rfl) (by kernel_rfl) (fun _ _ _ h => h) (Or.inl ⟨by rfl, fun wz hS => by have s1 := Cel.cell (Hid.out hS) 1; go_simp⟩) hS0 ?_
      try simp only [Act.put, List.getElem_toArray, List.getElem_cons_succ, List.getElem_cons_zero, List.setIfInBounds_toArray, List.set_cons_zero, List.set_cons_succ]
      refine wpAnyH_take (i := 5) (v := .pointer (some ⟨W.heap.size, 3, none⟩)) rfl (by kernel_rfl) (by kernel_rfl) (by kernel_rfl) (fun _ _ _ h => h) (Yields.yieldsIf (Or.inl ⟨by rfl, by intro wz; go_simp⟩)) hS0 ?_
      try simp only [Act.put, List.getElem_toArray, List.getElem_cons_succ, List.getElem_cons_zero, List.setIfInBounds_toArray, List.set_cons_zero, List.set_cons_succ]
      refine wpAnyH_take (i := 6) (v := .bool false) rfl (by kernel_rfl) (by kernel_rfl) (by kernel_rfl) (fun _ _ _ h => h) (Or.inl ⟨by rfl, fun wz hS => by have s1 := Cel.cell (Hid.out hS) 3; go_simp⟩) hS0 ?_
      try simp only [Act.put, List.getElem_toArray, List.getElem_cons_succ, List.getElem_cons_zero, List.setIfInBounds_toArray, List.set_cons_zero, List.set_cons_succ]
      refine wpAnyH_take (i := 7) (v := .slice adm l.length capm) rfl (by kernel_rfl) (by kernel_rfl) (by kernel_rfl) (fun _ _ _ h => h) (Yields.yieldsIf (Or.inl ⟨by rfl, by intro wz; go_simp⟩)) hS0 ?_
      try simp only [Act.put, List.getElem_toArray, List.getElem_cons_succ, List.getElem_cons_zero, List.setIfInBounds_toArray, List.set_cons_zero, List.set_cons_succ]
      refine wpAnyH_ready (rs := [8]) (by kernel_rfl) (by simp) ?_
      refine AllReadyH.cons rfl (fun K' hK => ?_) AllReadyH.nil
      go_simp
      refine (swap_any HOd.out.s k hk false _ l (tx_b (Tx.owned HM2.out) ((Below.refl _ w2).drew)) HLB.out HVL.out.1).mono ?_
      rintro e w3 ⟨va, rfl, hoa, u3, K3, h3, hs3⟩
      have CW3 : ToldD W.heap.size 3 k (.slice adl l.length capl) false (.slice adp nl.length capp) w3 := HOd.out.cel hs3.1 (show Cel w2.drew W.heap.size 40 (doC 3 k (.slice adl l.length capl) false (.slice adp nl.length capp)) from HC2.out)
      have HA3 : Hid (Tx w3 va (getM V k nilT).2) := Tx.owned hoa
      obtain ⟨_, hB3⟩ := Sto.both HOd.out.s HOd.out.r h3 hs3
      have HB3 : Hid _ := hB3
      have HTX3 : Hid (Tx w3 (.slice adl l.length capl) l) := HOd.out.tx hs3.1 (HTX.out _ (hb2.drew))
      have HNT3 : Hid (NdAt w3 (.slice adp nl.length capp) nl) := HOd.out.nd hs3.1 (HNT.out _ (hb2.drew))
      have H3 : Hid _ := h3
      have HS3 : Hid (Stp vb fb w2.drew K w3 K3) := hs3
      refine hK.out _ _ CW3 (fun _ => ?_)
      clear hK K' hS0
      have hS0 := CW3
      try simp only [Act.put, List.getElem_toArray, List.getElem_cons_succ, List.getElem_cons_zero, List.setIfInBounds_toArray, List.set_cons_zero, List.set_cons_succ]
      have HSW : Hid (Sto w3 K3 sb vb fb (unsM V k u3) G) := H3.out
      obtain ⟨ba, hba⟩ : ∃ ba, hasM V k = ba := ⟨_, rfl⟩
      rw [hba]
      clear hba
      obtain ⟨La, hLa⟩ : ∃ La, (getM V k nilT).2 = La := ⟨_, rfl⟩
      rw [hLa] at HA3 hga
      clear hLa
      refine wpAnyH_take (i := 9) (v := .tuple #[va, .bool ba]) rfl (by kernel_rfl) (by kernel_rfl) (by kernel_rfl) (fun _ _ _ h => h) (Yields.yieldsIf (Or.inl ⟨by rfl, by intro wz; go_simp⟩)) hS0 ?_
      try simp only [Act.put, List.getElem_toArray, List.getElem_cons_succ, List.getElem_cons_zero, List.setIfInBounds_toArray, List.set_cons_zero, List.set_cons_succ]
      refine wpAnyH_take (i := 10) (v := va) rfl (by kernel_rfl) (by kernel_rfl) (by kernel_rfl) (fun _ _ _ h => h) (Yields.yieldsIf (Or.inl ⟨by rfl, by intro wz; go_simp⟩)) hS0 ?_
      try simp only [Act.put, List.getElem_toArray, List.getElem_cons_succ, List.getElem_cons_zero, List.setIfInBounds_toArray, List.set_cons_zero, List.set_cons_succ]
      refine wpAnyH_take (i := 11) (v := .bool ba) rfl (by kernel_rfl) (by kernel_rfl) (by kernel_rfl) (fun _ _ _ h => h) (Yields.yieldsIf (Or.inl ⟨by rfl, by intro wz; go_simp⟩)) hS0 ?_
      try simp only [Act.put, List.getElem_toArray, List.getElem_cons_succ, List.getElem_cons_zero, List.setIfInBounds_toArray, List.set_cons_zero, List.set_cons_succ]
      refine wpAnyH_take (i := 12) (v := va) rfl (by kernel_rfl) (by kernel_rfl) (by kernel_rfl) (fun _ _ _ h => h) (Yields.yieldsIf (Or.inl ⟨by rfl, by intro wz; go_simp⟩)) hS0 ?_
      try simp only [Act.put, List.getElem_toArray, List.getElem_cons_succ, List.getElem_cons_zero, List.setIfInBounds_toArray, List.set_cons_zero, List.set_cons_succ]
      refine wpAnyH_take (i := 13) (v := .bool ba) rfl (by kernel_rfl) (by kernel_rfl) (by kernel_rfl) (fun _ _ _ h => h) (Yields.yieldsIf (Or.inl ⟨by rfl, by intro wz; go_simp⟩)) hS0 ?_
      try simp only [Act.put, List.getElem_toArray, List.getElem_cons_succ, List.getElem_cons_zero, List.setIfInBounds_toArray, List.set_cons_zero, List.set_cons_succ]
      refine wpAnyH_done (by kernel_rfl) ?_ _
      clear h3 hs3 hB3 x2 hoa
      have y1 := CW3.out.cell 1
      have y2 := CW3.out.cell 2
      have y3 := CW3.out.cell 3
      have y4 := CW3.out.cell 4
      go_wp2_with fail
      refine (rget_any HB3.out k (by have := HVL.out; omega)).mono ?_
      rintro e w3' ⟨rfl, hw3⟩
      obtain rfl := hw3.symm
      have HRV : Hid (Tx w3 (rgetV P av k) (rgetL P A k)) := HB3.out.got k
      obtain ⟨rv, hrv⟩ : ∃ rv, rgetV P av k = rv := ⟨_, rfl⟩
      obtain ⟨rb, hrb⟩ : ∃ rb, rgetB P k = rb := ⟨_, rfl⟩
      obtain ⟨Lr, hLr⟩ : ∃ Lr, rgetL P A k = Lr := ⟨_, rfl⟩
      rw [hrv, hLr] at HRV
      rw [hLr] at hgr
      rw [hrv, hrb]
      clear hrv hw3 hrb hLr
      by_cases hbb : ba = rb
      rotate_left
      · cases ba <;> cases rb
        · exact absurd rfl hbb
        · go_wp2_with fail
          go_ret
          exact ⟨false, K3, _, _, rfl, HSW.out, (HFU.out k u3), Stq.pre hb2 (Stq.undrew ⟨trivial, Stq.early HS3.out⟩).2⟩
        · go_wp2_with fail
          go_ret
          exact ⟨false, K3, _, _, rfl, HSW.out, (HFU.out k u3), Stq.pre hb2 (Stq.undrew ⟨trivial, Stq.early HS3.out⟩).2⟩
        · exact absurd rfl hbb
      · subst hbb
        have hbb : (ba != ba) = false := by simp
        go_wp2_with fail
        refine (sameTexts_any va rv La Lr w3 HA3.out HRV.out (by omega) (by omega)).mono ?_
        rintro e w3b ⟨rfl, hb3b⟩
        have CW4 := CW3.out.turn (Turn.ofBelow (S := fun _ => False) hb3b) (fun h => h)
        have y1 := CW4.cell 1
        have y2 := CW4.cell 2
        have y3 := CW4.cell 3
        have HB4 : Hid _ := HB3.out.below hb3b
        have HTX4 : Hid (Tx w3b (.slice adl l.length capl) l) := HTX3.out.below hb3b (Nat.le_refl _)
        have HS4 : Hid (Stp vb fb w2.drew K w3b K3) := HS3.out.trans (Stp.ofBelow hb3b)
        have H4 : Hid (Sto w3b K3 sb vb fb (unsM V k u3) G) := HSW.out.below hb3b
        clear CW4
        cases hsm : decide (La = Lr) with
        | false =>
          go_wp2_with fail
          go_ret
          exact ⟨false, K3, _, _, rfl, H4.out, (HFU.out k u3), Stq.pre hb2 (Stq.undrew ⟨trivial, Stq.early HS4.out⟩).2⟩
        | true =>
          go_wp2_with fail
          refine (runset_any HB4.out k (by have := HVL.out; omega)).mono ?_
          rintro e w4 ⟨rfl, vv4, av4, K4, h4, hs4⟩
          have HD4 : Hid (Sto w4 K4 sb vb fb (unsM V k u3) G ∧ Stq vb fb xb w2 K w4 K4) := Stq.undrew (wk HOd.out H4.out HS4.out h4 hs4)
          clear h4 hs4 hS0 CW3 y1 y2 y3 y4
          obtain ⟨hD4, hs4⟩ := HD4.out
          have HSP : Hid (SplW W.heap.size w2.heap.size w4 K4 sb vb fb (unsM V k u3) G (.slice adm l.length capm) (.slice adn nl.length capn) l.length nl.length w4) := SplW.of hb2 HKL.out HM2.out HN2.out HO2.out hD4 hs4
          clear hD4 hs4
          go_wp2_with fail
          go_loopw [14] (fun v14 wr => ∃ i : Nat, v14 = .int .i64 i ∧ i ≤ l.length ∧ Hid (SplW W.heap.size w2.heap.size w4 K4 sb vb fb (unsM V k u3) G (.slice adm l.length capm) (.slice adn nl.length capn) l.length nl.length wr)) (fun v14 _ => l.length - (intOf v14).toNat)
          case atStart => exact ⟨0, rfl, Nat.zero_le _, HSP.out⟩
          case round =>
            obtain ⟨i, rfl, hi, HI⟩ := hrel
            by_cases hil : i < l.length
            · obtain ⟨g, cap, u, hv, cu, fu, hx⟩ := HI.out.one hil
              cases hv
              have HX : Hid _ := hx (str [115, 112, 111, 105, 108, 116])
              clear hx
              go_wp2_with fail
              exact ⟨⟨i + 1, by simp, by omega, HX.out⟩, by simp [intOf]; omega⟩
            · have hie : i = l.length := by omega
              subst hie
              go_wp2_with fail
              go_loopw [15] (fun v15 wr => ∃ i : Nat, v15 = .int .i64 i ∧ i ≤ nl.length ∧ Hid (SplW W.heap.size w2.heap.size w4 K4 sb vb fb (unsM V k u3) G (.slice adm l.length capm) (.slice adn nl.length capn) l.length nl.length wr)) (fun v15 _ => nl.length - (intOf v15).toNat)
              case atStart => exact ⟨0, rfl, Nat.zero_le _, HI.out⟩
              case round =>
                obtain ⟨j, rfl, hj, HJ⟩ := hrel
                by_cases hjl : j < nl.length
                · obtain ⟨g, cap, u, hv, cu, fu, hx⟩ := HJ.out.two hjl
                  cases hv
                  have HX : Hid _ := hx (str [115, 112, 111, 105, 108, 116])
                  clear hx
                  go_wp2_with fail
                  exact ⟨⟨j + 1, by simp, by omega, HX.out⟩, by simp [intOf]; omega⟩
                · have hje : j = nl.length := by omega
                  subst hje
                  go_wp2_with fail
                  go_ret
                  obtain ⟨KE, hE1, hE2⟩ := HJ.out.fin hb2 HD4.out.2
                  exact ⟨true, KE, _, _, rfl, hE1, (HFU.out k u3), hE2⟩
  by_cases k4 : kd = 4
  · subst k4
    go_enter Try.func11, Try.ntmps11
    go_upto_region 1 with fail
    rw [← hwA]
    clear hwA
    go_wp2_with fail
    refine (texts_any _ l wA (HTX.out _ hbA) (by omega)).mono ?_
    rintro e w1 ⟨mv, rfl, hom, hb1'⟩
    have hb1 : Below W.heap.size W w1 := hbA.trans (hb1'.mono hbA.size)
    have C1 := CA.turn (Turn.ofBelow (S := fun _ => False) hb1') (fun h => h)
    have x1 := C1.cell 4
    obtain ⟨adm, capm, rfl⟩ := owns_slice hom
    have HM1 : Hid (w1.ownsRow W.heap.size 9 1 (.slice adm l.length capm) l.length (txV l)) := owns_lower hom hbA.size
    clear hom hb1' CA xA
    go_wp2_with fail
    refine (nodes_any _ nl w1 (HNT.out _ hb1) (by omega)).mono ?_
    rintro e w2 ⟨nv, rfl, hon, hb2'⟩
    have hb2 : Below W.heap.size W w2 := hb1.trans (hb2'.mono hb1.size)
    have HC2 : Hid (Cel w2 W.heap.size 40 (doC 4 k (.slice adl l.length capl) b (.slice adp nl.length capp))) := C1.turn (Turn.ofBelow (S := fun _ => False) hb2') (fun h => h)
    have x2 : w2.cell? ⟨W.heap.size, 0, none⟩ = some (.int .i64 4) := HC2.out.cell 0
    obtain ⟨adn, capn, rfl⟩ := owns_slice hon
    have HM2 : Hid (w2.ownsRow W.heap.size 9 1 (.slice adm l.length capm) l.length (txV l)) := owns_turn HM1.out (Turn.ofBelow (S := fun _ => False) hb2') (fun _ _ h => h)
    have HN2 : Hid (w2.ownsRow W.heap.size 58 5 (.slice adn nl.length capn) nl.length (ndCs nl)) := owns_lower hon hb1.size
    have HO2 : Hid (Opw w2 K sb vb fb xb V G vv av fv P A Q) := HO.out _ hb2
    clear hon hb2' C1 x1 HM1
    go_wp2_with fail
    refine (setArgs_any HO2.out.s _ l (Tx.owned HM2.out) HLB.out HVL.out.1).mono ?_
    rintro e w3 ⟨va, rfl, hoa, u3, K3, h3, hs3⟩
    have HA3 : Hid (Tx w3 va (getM V star nilT).2) := Tx.owned hoa
    obtain ⟨_, hB3⟩ := Sto.both HO2.out.s HO2.out.r h3 hs3
    have HB3 : Hid _ := hB3
    have HTX3 : Hid (Tx w3 (.slice adl l.length capl) l) := HO2.out.tx hs3.1 (HTX.out _ hb2)
    have H3 : Hid (Sto w3 K3 sb vb fb (putM V star (u3, l)) G) := h3
    have HS3 : Hid (Stp vb fb w2 K w3 K3) := hs3
    have CW3 : ToldD W.heap.size 4 k (.slice adl l.length capl) b (.slice adp nl.length capp) w3 := HO2.out.cel hs3.1 HC2.out
    have y0 : w3.cell? ⟨xb, 1, none⟩ = some av := HB3.out.xc.cell 1
    have HAV : Hid (Tx w3 av A) := HB3.out.ar.tx
    obtain ⟨La, hLa⟩ : ∃ La, (getM V star nilT).2 = La := ⟨_, rfl⟩
    rw [hLa] at HA3 hgA
    clear h3 hs3 hB3 x2 hoa hLa
    go_wp2_with fail
    refine (sameTexts_any va av La A w3 HA3.out HAV.out (by omega) (by omega)).mono ?_
    rintro e w3b ⟨rfl, hb3b⟩
    cases hsm : decide (La = A) with
    | false =>
      go_wp2_with fail
      go_ret
      exact ⟨false, K3, _, _, rfl, H3.out.below hb3b, (HFP.out star u3 l star_le hll), Stq.pre hb2 ((Stq.early HS3.out).post hb3b)⟩
    | true =>
      have CW4 := CW3.out.turn (Turn.ofBelow (S := fun _ => False) hb3b) (fun h => h)
      have y2 := CW4.cell 2
      go_wp2_with fail
      refine (texts_any _ l w3b (HTX3.out.below hb3b (Nat.le_refl _)) (by omega)).mono ?_
      rintro e w3c ⟨nv4, rfl, ho4, hb3c⟩
      have HB4 : Hid _ := (HB3.out.below hb3b).below hb3c
      have z1 : w3c.cell? ⟨xb, 1, none⟩ = some av := HB4.out.xc.cell 1
      have z2 : w3c.frozen? ⟨xb, 1, none⟩ = false := HB4.out.xc.frozen 1
      have hz34 : w3.heap.size ≤ w3c.heap.size := Nat.le_trans hb3b.size hb3c.size
      have h4 := HB4.out.setA (K' := Kn w3 w3c (fun i => K i ∨ K3 i)) (A' := l) (av' := nv4) (fun _ h => .inl h) (Kn.lt HB3.out.lt hz34) ⟨owns_lower ho4 (Nat.zero_le _), fun b hb => .inr ⟨Nat.le_trans hb3b.size (ho4.lt b hb).1, (ho4.lt b hb).2⟩⟩
      have hs4 : Stx xb w3 (fun i => K i ∨ K3 i) (w3c.setCell ⟨xb, 1, none⟩ nv4) (Kn w3 w3c (fun i => K i ∨ K3 i)) := ⟨((Turn.ofBelow hb3b).trans (Turn.ofBelow hb3c) (fun _ h _ => h)).trans (turn_set _ _ _ _) (fun _ hi _ => hi), fun i hi => hi.imp id (fun h => h.1), fun _ h => .inl h⟩
      have HD4 : Hid (Sto (w3c.setCell ⟨xb, 1, none⟩ nv4) (Kn w3 w3c (fun i => K i ∨ K3 i)) sb vb fb (putM V star (u3, l)) G ∧ Stq vb fb xb w2 K (w3c.setCell ⟨xb, 1, none⟩ nv4) (Kn w3 w3c (fun i => K i ∨ K3 i))) := wk HO2.out H3.out HS3.out h4 hs4
      obtain ⟨ad4, cap4, rfl⟩ := owns_slice ho4
      generalize hK4 : Kn w3 w3c (fun i => K i ∨ K3 i) = K4 at HD4
      clear h4 hs4 ho4 CW3 CW4 y0 y2 hK4
      obtain ⟨hD4, hs4⟩ := HD4.out
      have HSP : Hid (SplW W.heap.size w2.heap.size (w3c.setCell ⟨xb, 1, none⟩ (.slice ad4 l.length cap4)) K4 sb vb fb (putM V star (u3, l)) G (.slice adm l.length capm) (.slice adn nl.length capn) l.length nl.length (w3c.setCell ⟨xb, 1, none⟩ (.slice ad4 l.length cap4))) := SplW.of hb2 HKL.out HM2.out HN2.out HO2.out hD4 hs4
      clear hD4 hs4
      go_wp2_with fail
      go_loopw [14] (fun v14 wr => ∃ i : Nat, v14 = .int .i64 i ∧ i ≤ l.length ∧ Hid (SplW W.heap.size w2.heap.size (w3c.setCell ⟨xb, 1, none⟩ (.slice ad4 l.length cap4)) K4 sb vb fb (putM V star (u3, l)) G (.slice adm l.length capm) (.slice adn nl.length capn) l.length nl.length wr)) (fun v14 _ => l.length - (intOf v14).toNat)
      case atStart => exact ⟨0, rfl, Nat.zero_le _, HSP.out⟩
      case round =>
        obtain ⟨i, rfl, hi, HI⟩ := hrel
        by_cases hil : i < l.length
        · obtain ⟨g, cap, u, hv, cu, fu, hx⟩ := HI.out.one hil
          cases hv
          have HX : Hid _ := hx (str [115, 112, 111, 105, 108, 116])
          clear hx
          go_wp2_with fail
          exact ⟨⟨i + 1, by simp, by omega, HX.out⟩, by simp [intOf]; omega⟩
        · have hie : i = l.length := by omega
          subst hie
          go_wp2_with fail
          go_loopw [15] (fun v15 wr => ∃ i : Nat, v15 = .int .i64 i ∧ i ≤ nl.length ∧ Hid (SplW W.heap.size w2.heap.size (w3c.setCell ⟨xb, 1, none⟩ (.slice ad4 l.length cap4)) K4 sb vb fb (putM V star (u3, l)) G (.slice adm l.length capm) (.slice adn nl.length capn) l.length nl.length wr)) (fun v15 _ => nl.length - (intOf v15).toNat)
          case atStart => exact ⟨0, rfl, Nat.zero_le _, HI.out⟩
          case round =>
            obtain ⟨j, rfl, hj, HJ⟩ := hrel
            by_cases hjl : j < nl.length
            · obtain ⟨g, cap, u, hv, cu, fu, hx⟩ := HJ.out.two hjl
              cases hv
              have HX : Hid _ := hx (str [115, 112, 111, 105, 108, 116])
              clear hx
              go_wp2_with fail
              exact ⟨⟨j + 1, by simp, by omega, HX.out⟩, by simp [intOf]; omega⟩
            · have hje : j = nl.length := by omega
              subst hje
              go_wp2_with fail
              go_ret
              obtain ⟨KE, hE1, hE2⟩ := HJ.out.fin hb2 HD4.out.2
              exact ⟨true, KE, _, _, rfl, hE1, (HFP.out star u3 l star_le hll), hE2⟩
  go_enter Try.func11, Try.ntmps11
  go_upto_region 1 with fail
  rw [← hwA]
  clear hwA
  go_wp2_with fail
  refine (texts_any _ l wA (HTX.out _ hbA) (by omega)).mono ?_
  rintro e w1 ⟨mv, rfl, hom, hb1'⟩
  have hb1 : Below W.heap.size W w1 := hbA.trans (hb1'.mono hbA.size)
  have C1 := CA.turn (Turn.ofBelow (S := fun _ => False) hb1') (fun h => h)
  have x1 := C1.cell 4
  obtain ⟨adm, capm, rfl⟩ := owns_slice hom
  have HM1 : Hid (w1.ownsRow W.heap.size 9 1 (.slice adm l.length capm) l.length (txV l)) := owns_lower hom hbA.size
  clear hom hb1' CA xA
  go_wp2_with fail
  refine (nodes_any _ nl w1 (HNT.out _ hb1) (by omega)).mono ?_
  rintro e w2 ⟨nv, rfl, hon, hb2'⟩
  have hb2 : Below W.heap.size W w2 := hb1.trans (hb2'.mono hb1.size)
  have HC2 : Hid (Cel w2 W.heap.size 40 (doC kd k (.slice adl l.length capl) b (.slice adp nl.length capp))) := C1.turn (Turn.ofBelow (S := fun _ => False) hb2') (fun h => h)
  have x2 : w2.cell? ⟨W.heap.size, 0, none⟩ = some (.int .i64 kd) := HC2.out.cell 0
  obtain ⟨adn, capn, rfl⟩ := owns_slice hon
  have HM2 : Hid (w2.ownsRow W.heap.size 9 1 (.slice adm l.length capm) l.length (txV l)) := owns_turn HM1.out (Turn.ofBelow (S := fun _ => False) hb2') (fun _ _ h => h)
  have HN2 : Hid (w2.ownsRow W.heap.size 58 5 (.slice adn nl.length capn) nl.length (ndCs nl)) := owns_lower hon hb1.size
  have HO2 : Hid (Opw w2 K sb vb fb xb V G vv av fv P A Q) := HO.out _ hb2
  clear hon hb2' C1 x1 HM1
  go_upto_region 4 with fail
  have HOd : Hid (Opw w2.drew K sb vb fb xb V G vv av fv P A Q) := HO2.out.below ((Below.refl _ w2).drew)
  have hS0 : ToldD W.heap.size kd k (.slice adl l.length capl) b (.slice adp nl.length capp) (World.drew w2) := HC2.out
  refine wp_region_held (S := ToldD W.heap.size kd k (.slice adl l.length capl) b (.slice adp nl.length capp)) (by kernel_rfl) ?_
  change wpAnyH _ _ _ _ _ _ _ _ (World.drew _)
  refine wpAnyH_take (i := 0) (v := sP sb) rfl (by kernel_rfl) (by kernel_rfl) (by kernel_rfl) (fun _ _ _ h => h) (Yields.yieldsIf (Or.inl ⟨by rfl, by intro wz; go_simp⟩)) hS0 ?_
  try simp only [Act.put, List.getElem_toArray, List.getElem_cons_zero, List.setIfInBounds_toArray, List.set_cons_zero, List.set_cons_succ]
  refine wpAnyH_take (i := 1) (v := sP sb) rfl (by kernel_rfl) (by kernel_rfl) (by kernel_rfl) (fun _ _ _ h => h) (Yields.yieldsIf (Or.inl ⟨by rfl, by intro wz; go_simp⟩)) hS0 ?_
  try simp only [Act.put, List.getElem_toArray, List.getElem_cons_succ, List.getElem_cons_zero, List.setIfInBounds_toArray, List.set_cons_zero, List.set_cons_succ]
  refine wpAnyH_take (i := 2) (v := fP sb) rfl (by kernel_rfl) (by kernel_rfl) (by kernel_rfl) (fun _ _ _ h => h) (Yields.yieldsIf (Or.inl ⟨by rfl, by intro wz; go_simp⟩)) hS0 ?_
  try simp only [Act.put, List.getElem_toArray, List.getElem_cons_succ, List.getElem_cons_zero, List.setIfInBounds_toArray, List.set_cons_zero, List.set_cons_succ]
  refine wpAnyH_take (i := 3) (v := .pointer (some ⟨W.heap.size, 1, none⟩)) rfl (by kernel_rfl) (by kernel_rfl) (by kernel_rfl) (fun _ _ _ h => h) (Yields.yieldsIf (Or.inl ⟨by rfl, by intro wz; go_simp⟩)) hS0 ?_
  try simp only [Act.put, List.getElem_toArray, List.getElem_cons_succ, List.getElem_cons_zero, List.setIfInBounds_toArray, List.set_cons_zero, List.set_cons_succ]
  refine wpAnyH_take (i := 4) (v := str k) rfl (by kernel_rfl) (by kernel_rfl) (by kernel_rfl) (fun _ _ _ h => h) (Or.inl ⟨by rfl, fun wz hS => by have s1 := Cel.cell (Hid.out hS) 1; go_simp⟩) hS0 ?_
  try simp only [Act.put, List.getElem_toArray, List.getElem_cons_succ, List.getElem_cons_zero, List.setIfInBounds_toArray, List.set_cons_zero, List.set_cons_succ]
  refine wpAnyH_take (i := 5) (v := .slice adn nl.length capn) rfl (by kernel_rfl) (by kernel_rfl) (by kernel_rfl) (fun _ _ _ h => h) (Yields.yieldsIf (Or.inl ⟨by rfl, by intro wz; go_simp⟩)) hS0 ?_
  try simp only [Act.put, List.getElem_toArray, List.getElem_cons_succ, List.getElem_cons_zero, List.setIfInBounds_toArray, List.set_cons_zero, List.set_cons_succ]
  refine wpAnyH_ready (rs := [6]) (by kernel_rfl) (by simp) ?_
  refine AllReadyH.cons rfl (fun K' hK => ?_) AllReadyH.nil
  go_simp
  refine (setFun_any HOd.out.s k hk _ nl (nd_b (NdAt.owned HN2.out) ((Below.refl _ w2).drew)) (by omega) HVL.out.2.1).mono ?_
  rintro e w3 ⟨rfl, u3, K3, h3, hs3⟩
  have CW3 : ToldD W.heap.size kd k (.slice adl l.length capl) b (.slice adp nl.length capp) w3 := HOd.out.cel hs3.1 (show Cel w2.drew W.heap.size 40 (doC kd k (.slice adl l.length capl) b (.slice adp nl.length capp)) from HC2.out)
  obtain ⟨_, hB3⟩ := Sto.both HOd.out.s HOd.out.r h3 hs3
  have HB3 : Hid _ := hB3
  have HTX3 : Hid (Tx w3 (.slice adl l.length capl) l) := HOd.out.tx hs3.1 (HTX.out _ (hb2.drew))
  have HNT3 : Hid (NdAt w3 (.slice adp nl.length capp) nl) := HOd.out.nd hs3.1 (HNT.out _ (hb2.drew))
  have H3 : Hid _ := h3
  have HS3 : Hid (Stp vb fb w2.drew K w3 K3) := hs3
  refine hK.out _ _ CW3 (fun _ => ?_)
  clear hK K' hS0
  have hS0 := CW3
  try simp only [Act.put, List.getElem_toArray, List.getElem_cons_succ, List.getElem_cons_zero, List.setIfInBounds_toArray, List.set_cons_zero, List.set_cons_succ]
  refine wpAnyH_done (by kernel_rfl) ?_ _
  clear h3 hs3 hB3 x2
  have y1 := CW3.out.cell 1
  have y2 := CW3.out.cell 2
  have y3 := CW3.out.cell 3
  have y4 := CW3.out.cell 4
  go_wp2_with fail
  refine (rsetFun_any HB3.out k _ nl HNT3.out (by omega) HVL.out.2.2.2 HRQ.out).mono ?_
  rintro e w4 ⟨rfl, fv4, Q4, K4, h4, hq4, hs4⟩
  have HD4 : Hid (Sto w4 K4 sb vb fb V (putM G k (u3, nl)) ∧ Stq vb fb xb w2 K w4 K4) := Stq.undrew (wk HOd.out H3.out HS3.out h4 hs4)
  clear h4 hs4 hq4 hS0 CW3 y1 y2 y3 y4
  obtain ⟨hD4, hs4⟩ := HD4.out
  have HSP : Hid (SplW W.heap.size w2.heap.size w4 K4 sb vb fb V (putM G k (u3, nl)) (.slice adm l.length capm) (.slice adn nl.length capn) l.length nl.length w4) := SplW.of hb2 HKL.out HM2.out HN2.out HO2.out hD4 hs4
  clear hD4 hs4
  go_wp2_with fail
  go_loopw [14] (fun v14 wr => ∃ i : Nat, v14 = .int .i64 i ∧ i ≤ l.length ∧ Hid (SplW W.heap.size w2.heap.size w4 K4 sb vb fb V (putM G k (u3, nl)) (.slice adm l.length capm) (.slice adn nl.length capn) l.length nl.length wr)) (fun v14 _ => l.length - (intOf v14).toNat)
  case atStart => exact ⟨0, rfl, Nat.zero_le _, HSP.out⟩
  case round =>
    obtain ⟨i, rfl, hi, HI⟩ := hrel
    by_cases hil : i < l.length
    · obtain ⟨g, cap, u, hv, cu, fu, hx⟩ := HI.out.one hil
      cases hv
      have HX : Hid _ := hx (str [115, 112, 111, 105, 108, 116])
      clear hx
      go_wp2_with fail
      exact ⟨⟨i + 1, by simp, by omega, HX.out⟩, by simp [intOf]; omega⟩
    · have hie : i = l.length := by omega
      subst hie
      go_wp2_with fail
      go_loopw [15] (fun v15 wr => ∃ i : Nat, v15 = .int .i64 i ∧ i ≤ nl.length ∧ Hid (SplW W.heap.size w2.heap.size w4 K4 sb vb fb V (putM G k (u3, nl)) (.slice adm l.length capm) (.slice adn nl.length capn) l.length nl.length wr)) (fun v15 _ => nl.length - (intOf v15).toNat)
      case atStart => exact ⟨0, rfl, Nat.zero_le _, HI.out⟩
      case round =>
        obtain ⟨j, rfl, hj, HJ⟩ := hrel
        by_cases hjl : j < nl.length
        · obtain ⟨g, cap, u, hv, cu, fu, hx⟩ := HJ.out.two hjl
          cases hv
          have HX : Hid _ := hx (str [115, 112, 111, 105, 108, 116])
          clear hx
          go_wp2_with fail
          exact ⟨⟨j + 1, by simp, by omega, HX.out⟩, by simp [intOf]; omega⟩
        · have hje : j = nl.length := by omega
          subst hje
          go_wp2_with fail
          go_ret
          obtain ⟨KE, hE1, hE2⟩ := HJ.out.fin hb2 HD4.out.2
          exact ⟨true, KE, _, _, rfl, hE1, HFF.out u3, hE2⟩
end Go.Proofs.Ytikogljojnapaaa
