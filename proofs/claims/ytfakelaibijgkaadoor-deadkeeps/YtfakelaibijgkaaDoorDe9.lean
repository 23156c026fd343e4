/- A program passed: from below to above. -/
import Derived.Test.YtfakelaibijgkaaDoorDe8
namespace Go.Proofs.YtfakelaibijgkaaDoor
open Go.RowKit
attribute [local go_sem] Oper.semAt_some

theorem take_map_drop (f : List Nd → List Nd) (Ys : List (List Nd)) (i : Nat) (Y : List Nd) (h : Ys[i]? = some Y) : ((Ys.take i).map f ++ Ys.drop i).set i (f Y) = (Ys.take (i + 1)).map f ++ Ys.drop (i + 1) := by
  have hi := (List.getElem?_eq_some_iff.1 h).1
  have hl : ((Ys.take i).map f).length = i := by rw [List.length_map, List.length_take]; omega
  rw [List.set_append_right _ _ (by omega), hl, Nat.sub_self, take_one h, List.map_append, List.append_assoc]
  congr 1
  rw [List.drop_eq_getElem_cons hi]
  rfl
theorem cells_frozen {W : World} {B g n cap : Nat} {K : List (Value × List Nd)} (h : KdOwn W B (.slice (some ⟨g, 0, none⟩) n cap) K) : B ≤ g ∧ g < W.heap.size ∧ ∀ j, W.frozen? ⟨g, j, none⟩ = false := by
  rcases h.1.2 with ⟨h0, _⟩ | ⟨g', cap', cur, hv, hb, hc, _⟩
  · cases h0
  · obtain ⟨e1, _, _⟩ := Value.slice.inj hv
    cases e1
    have hC : Cel W g 22 cur := hc
    exact ⟨hb, hC.lt, fun j => hC.frozen j⟩
theorem row_off {W : World} {B g o n cap : Nat} {K : List (Value × List Nd)} (h : KdOwn W B (.slice (some ⟨g, o, none⟩) n cap) K) : o = 0 := by
  rcases h.1.2 with ⟨h0, _⟩ | ⟨g', cap', cur, hv, hb, hc, _⟩
  · cases h0
  · obtain ⟨e1, _, _⟩ := Value.slice.inj hv
    cases e1
    rfl
set_option maxRecDepth 100000 in
set_option maxHeartbeats 4000000 in
theorem passed_any : ∀ (d : Nat) (word : Bool) (v : Value) (X : List Nd) (W : World), d ≤ 31 → NdAt W v X → Fits d word X → X.length ≤ 3000 →
    Calls Tryd.prog 21 #[v] W fun e w' => ∃ v', e = .returned v' ∧ NdOwn w' W.heap.size v' (passD d X) ∧ Below W.heap.size W w'
  | 0, _, _, _, _, _, _, h, _ => by cases h
  | d + 1, word, v, X, W, hd, hN, hF, hl => by
    have IH : Hid (∀ (word : Bool) (v : Value) (X : List Nd) (W : World), NdAt W v X → Fits d word X → X.length ≤ 3000 →
      Calls Tryd.prog 21 #[v] W fun e w' => ∃ v', e = .returned v' ∧ NdOwn w' W.heap.size v' (passD d X) ∧ Below W.heap.size W w') := fun word v X W => passed_any d word v X W (by omega)
    obtain ⟨e, n, s, Ys, he, hX, hq, h1, h2, h3, h4, hs⟩ := hF.out
    obtain rfl : d = e := by omega
    obtain ⟨kind, hkd⟩ : ∃ kind, kind = kindOf X := ⟨_, rfl⟩
    rw [← hkd] at hX h1 h2 h3 h4 hs
    have hxl : X.length = Ys.flatten.length + 1 := by rw [hX, new_len]
    have HPD : Hid (passD (d + 1) X = putD kind n s (Ys.map (passD d))) := by
      unfold Hid
      rw [hX] at hq ⊢
      exact passD_new hq
    rw [HPD.out]
    have HK0 : Hid _ := kids_fit hN hF hl
    rw [hq] at HK0
    have HFit : Hid (∀ (j : Nat) (Y : List Nd), Ys[j]? = some Y → Fits d (wordAtB kind Ys.length j) Y ∧ Y.length ≤ 3000) := fun j Y hj => ⟨hs j Y hj, by
      have := flat_mem Ys Y (List.mem_of_getElem? hj)
      omega⟩
    have HPF : Hid (∀ (j : Nat) (Y : List Nd), (Ys.map (passD d))[j]? = some Y → Fits d (wordAtB kind (Ys.map (passD d)).length j) Y) := fun j Y hj => by
      rw [List.getElem?_map] at hj
      obtain ⟨Z, hZ, rfl⟩ := Option.map_eq_some_iff.1 hj
      rw [List.length_map]
      exact (passD_fits d _ Z (by omega) (hs j Z hZ)).1
    have HPL : Hid ((Ys.map (passD d)).flatten.length ≤ 3000) := by
      have := flat_map_le (passD d) Ys (fun Y hm => by
        obtain ⟨j, hj⟩ := List.mem_iff_getElem?.1 hm
        exact (passD_fits d _ Y (by omega) (hs j Y hj)).2)
      unfold Hid
      omega
    have HC4 : Hid (cntB kind (Ys.map (passD d)).length = true) := by unfold Hid; rw [List.length_map]; exact h4
    have hYl : Ys.length ≤ 3000 := by
      have := flat_ge Ys (fun Y hm => by
        obtain ⟨j, hj⟩ := List.mem_iff_getElem?.1 hm
        exact (hs j Y hj).pos)
      omega
    have HX0 : Hid (∀ w, Below W.heap.size W w → ∃ g o cap k z, v = .slice (some ⟨g, o, none⟩) X.length cap ∧ w.cell? ⟨g, o, none⟩ = some (.int .i64 kind) ∧ w.cell? ⟨g, o + 1, none⟩ = some (.int .i64 n) ∧ w.cell? ⟨g, o + 2, none⟩ = some (.int .i64 k) ∧ w.cell? ⟨g, o + 3, none⟩ = some (.int .i64 z) ∧ w.cell? ⟨g, o + 4, none⟩ = some (str s)) := fun w hb => by
      obtain ⟨g, o, cap, hv, _, c0, c1, c2, c3, c4⟩ := (hN.below hb (Nat.le_refl _)).at (j := 0) (x := ⟨kind, n, Ys.length, Ys.flatten.length + 1, s⟩) (by rw [hX]; rfl)
      simp only [Nat.zero_mul, Nat.add_zero] at c0 c1 c2 c3 c4
      exact ⟨g, o, cap, _, _, hv, c0, c1, c2, c3, c4⟩
    have hx0 : (0 : Int) < (X.length : Int) := by omega
    obtain ⟨ad, cap, rfl⟩ := hN.form
    obtain ⟨XL, hXL⟩ : ∃ XL, XL = X.length := ⟨_, rfl⟩
    rw [← hXL] at HK0 HX0 hx0 ⊢
    clear hN hF hl hX hq h1 h2 h3 h4 hs hxl hkd hXL HPD
    go_enter Tryd.func21, Tryd.ntmps21
    go_wp2_with fail
    refine Calls.mono HK0.out ?_
    rintro e w1 ⟨v1, K1, rfl, hk1, hs1, hb1⟩
    have HK1 : Hid (KdOwn w1 W.heap.size v1 K1) := hk1
    have HS1 : Hid (K1.map Prod.snd = Ys) := hs1
    have HB1 : Hid (Below W.heap.size W w1) := hb1
    have hKl : K1.length = Ys.length := by rw [← hs1, List.length_map]
    obtain ⟨ad1, cap1, rfl⟩ := owns_slice hk1.1
    rw [hKl] at HK1 ⊢
    clear hk1 hs1 HK0 hKl hb1
    go_wp2_with fail
    go_loopw [10] (fun v10 wr => ∃ (i : Nat) (K : List (Value × List Nd)), v10 = .int .i64 i ∧ i ≤ Ys.length ∧ Hid (K.map Prod.snd = (Ys.take i).map (passD d) ++ Ys.drop i) ∧ Hid (KdOwn wr W.heap.size (.slice ad1 Ys.length cap1) K) ∧ Hid (Below W.heap.size W wr)) (fun v10 _ => Ys.length - (intOf v10).toNat)
    case atStart => exact ⟨0, K1, rfl, by omega, by unfold Hid; rw [HS1.out]; simp, HK1.out, HB1.out⟩
    case round =>
      obtain ⟨i, K, rfl, hi, HS, HK, HB⟩ := hrel
      by_cases hlt : i < Ys.length
      · have hlt' : (i : Int) < (Ys.length : Int) := by omega
        obtain ⟨Y, hY⟩ : ∃ Y, Ys[i]? = some Y := ⟨_, List.getElem?_eq_getElem hlt⟩
        have hKY : (K.map Prod.snd)[i]? = some Y := by
          rw [HS.out, List.getElem?_append_right (by rw [List.length_map, List.length_take]; omega), List.length_map, List.length_take, Nat.min_eq_left (by omega), Nat.sub_self, List.getElem?_drop]
          exact hY
        rw [List.getElem?_map] at hKY
        obtain ⟨q, hq, hqY⟩ := Option.map_eq_some_iff.1 hKY
        obtain ⟨g, o, cp, hv, _, c0, hNq⟩ := HK.out.at.at hq
        injection hv with e1 e2 e3
        subst e1
        subst e3
        clear e2
        obtain rfl := row_off HK.out
        obtain ⟨hBg, hgl, hfr⟩ := cells_frozen HK.out
        obtain ⟨hfY, hlY⟩ := HFit.out i Y hY
        rw [hqY] at hNq
        obtain ⟨qv, Q⟩ := q
        simp only at hqY c0 hNq
        subst hqY
        obtain ⟨qa, qc, rfl⟩ := hNq.form
        have HA : Hid _ := IH.out _ _ Q wr hNq hfY hlY
        have HT : Hid (((Ys.take i).map (passD d) ++ Ys.drop i).set i (passD d Q) = (Ys.take (i + 1)).map (passD d) ++ Ys.drop (i + 1)) := take_map_drop (passD d) Ys i Q hY
        rw [Nat.zero_add] at c0
        have HC0 : Hid (∀ w, Below wr.heap.size wr w → w.cell? ⟨g, i, none⟩ = some (.slice qa Q.length qc) ∧ ∀ j, w.frozen? ⟨g, j, none⟩ = false) := fun w hb => ⟨(hb.cell (p := ⟨g, i, none⟩) hgl).trans c0, (cells_frozen (HK.out.below hb)).2.2⟩
        clear hY hKY hq hNq hfY hfr
        go_wp2_with fail
        refine Calls.mono HA.out ?_
        rintro e w2 ⟨v2, rfl, ho2, hb2⟩
        obtain ⟨a2, c2, rfl⟩ := owns_slice ho2
        have HO2 : Hid (NdOwn w2 W.heap.size (.slice a2 (passD d Q).length c2) (passD d Q)) := owns_lower ho2 HB.out.size
        have HK2 : Hid (KdOwn w2 W.heap.size (.slice (some ⟨g, 0, none⟩) Ys.length cap1) K) := HK.out.below hb2
        have HB2 : Hid (Below W.heap.size W w2) := HB.out.trans (hb2.mono HB.out.size)
        obtain ⟨d0, df⟩ := HC0.out w2 hb2
        have df0 := df i
        clear ho2 hb2 HA HC0 df c0
        go_wp2_with fail
        refine ⟨⟨i + 1, K.set i (.slice a2 (passD d Q).length c2, passD d Q), by simp, by omega, ?_, HK2.out.put i HO2.out, HB2.out.setCell (p := ⟨g, i, none⟩) hBg _⟩, by simp [intOf]; omega⟩
        unfold Hid
        rw [List.map_set, HS.out]
        exact HT.out
      · have hlt' : ¬ (i : Int) < (Ys.length : Int) := by omega
        have HE : Hid (K.map Prod.snd = Ys.map (passD d)) := by
          have := HS.out
          rw [List.take_of_length_le (by omega), List.drop_of_length_le (by omega), List.append_nil] at this
          exact this
        obtain ⟨g, o, cp, k, z, hv, c0, c1, c2, c3, c4⟩ := HX0.out wr HB.out
        injection hv with e1 e2 e3
        subst e1
        subst e3
        clear e2
        have hp := put_any (x := ⟨kind, n, k, z, s⟩) HK.out HB.out.size (by omega : d ≤ 30) (by rw [HE.out]; exact HPF.out) (by rw [HE.out]; exact HC4.out) (by unfold kidL; rw [HE.out]; exact HPL.out)
        rw [HE.out] at hp
        have HP : Hid _ := hp
        clear hp HS HE
        go_wp2_with fail
        refine Calls.mono HP.out ?_
        rintro e w2 ⟨v2, rfl, ho2, hb2⟩
        have HO2 : Hid _ := ho2
        have HB2 : Hid (Below W.heap.size W w2) := HB.out.trans (hb2.mono HB.out.size)
        clear ho2 hb2 HP
        go_wp2_with fail
        go_ret
        exact ⟨_, rfl, HO2.out, HB2.out⟩
/-- A program that may not be is copied. -/
theorem pass_bad {ad : Option Addr} {cap : Nat} {X : List Nd} {W : World} {ea : Nat → Addr} (hP : passL X = X)
    (hC : Calls Tryd.prog 11 #[.slice ad X.length cap] W fun e w' => ∃ u, e = .returned u ∧ ErrIs w' ea u (checkL X) ∧ Below W.heap.size W w')
    (hu : ∀ w u, ErrIs w ea u (checkL X) → ∃ t q, u = .iface t q) (hN : ∀ w, Below W.heap.size W w → NdAt w (.slice ad X.length cap) X) (hl : X.length < 4294967296) :
    Calls Tryd.prog 9 #[.slice ad X.length cap] W fun e w' => ∃ v', e = .returned v' ∧ NdOwn w' W.heap.size v' (passL X) ∧ Below W.heap.size W w' := by
  rw [hP]
  have HC : Hid _ := hC
  have HU : Hid _ := hu
  have HA : Hid (∀ w, Below W.heap.size W w → Calls Tryd.prog 20 #[.slice ad X.length cap] w fun e w' => ∃ v', e = .returned v' ∧ NdOwn w' W.heap.size v' X ∧ Below W.heap.size W w') := fun w hb => by
    refine (clone_any _ X w (hN w hb) hl).mono ?_
    rintro e w' ⟨v', rfl, h1, h2⟩
    exact ⟨v', rfl, owns_lower h1 hb.size, hb.trans (h2.mono hb.size)⟩
  clear hC hu hN hP
  go_enter Tryd.func9, Tryd.ntmps9
  go_wp2_with fail
  refine Calls.mono HC.out ?_
  rintro e w1 ⟨u, rfl, hu, hb1⟩
  obtain ⟨t, q, rfl⟩ := HU.out _ _ hu
  have HA1 : Hid _ := HA.out w1 hb1
  clear HA HC hu HU
  go_wp2_with fail
  refine Calls.mono HA1.out ?_
  rintro e w2 ⟨v2, rfl, ho2, hb2⟩
  have HO2 : Hid _ := ho2
  clear ho2
  go_wp2_with fail
  go_ret
  exact ⟨_, rfl, HO2.out, hb2⟩
/-- What Pass answers, for any list of nodes that is not too long to be looked at. -/
theorem pass_any (v : Value) (X : List Nd) (W : World) (ea : Nat → Addr) (hE : Ers W ea) (hN : NdAt W v X) (hl : X.length < 4294967296) (hok : ∀ x ∈ X, NdOk x) :
    Calls Tryd.prog 9 #[v] W fun e w' => ∃ v', e = .returned v' ∧ NdOwn w' W.heap.size v' (passL X) ∧ Below W.heap.size W w' := by
  have HC : Hid _ := check_any v X W ea hE hN hl hok
  have HN : Hid (∀ w, Below W.heap.size W w → NdAt w v X) := fun w hb => hN.below hb (Nat.le_refl _)
  obtain ⟨ad, cap, rfl⟩ := hN.form
  cases hck : checkL X with
  | fine =>
    have hP : passL X = passD 30 X := by unfold passL; rw [hck]
    obtain ⟨hf, _, h3⟩ := fits_of_fine X hck
    rw [hck] at HC
    rw [hP]
    have HA : Hid (∀ w, Below W.heap.size W w → Calls Tryd.prog 21 #[.slice ad X.length cap] w fun e w' => ∃ v', e = .returned v' ∧ NdOwn w' W.heap.size v' (passD 30 X) ∧ Below W.heap.size W w') := fun w hb => by
      refine (passed_any 30 false _ X w (by omega) (HN.out w hb) hf h3).mono ?_
      rintro e w' ⟨v', rfl, h1, h2⟩
      exact ⟨v', rfl, owns_lower h1 hb.size, hb.trans (h2.mono hb.size)⟩
    clear hck hf h3 hP hN hE hok
    go_enter Tryd.func9, Tryd.ntmps9
    go_wp2_with fail
    refine Calls.mono HC.out ?_
    rintro e w1 ⟨u, rfl, hu, hb1⟩
    obtain rfl := hu
    have HA1 : Hid _ := HA.out w1 hb1
    clear HA HC
    go_wp2_with fail
    refine Calls.mono HA1.out ?_
    rintro e w2 ⟨v2, rfl, ho2, hb2⟩
    have HO2 : Hid _ := ho2
    clear ho2
    go_wp2_with fail
    go_ret
    exact ⟨_, rfl, HO2.out, hb2⟩
  | many => exact pass_bad (by unfold passL; rw [hck]) HC.out (by rw [hck]; rintro w u rfl; exact ⟨_, _, rfl⟩) HN.out hl
  | node i => exact pass_bad (by unfold passL; rw [hck]) HC.out (by rw [hck]; rintro w u ⟨q, rfl, _⟩; exact ⟨_, _, rfl⟩) HN.out hl
  | nest i => exact pass_bad (by unfold passL; rw [hck]) HC.out (by rw [hck]; rintro w u ⟨q, rfl, _⟩; exact ⟨_, _, rfl⟩) HN.out hl
end Go.Proofs.YtfakelaibijgkaaDoor
