/- What has a word first. -/
import Derived.Test.YtfakelaibijgkaaDoorDe4
namespace Go.Proofs.YtfakelaibijgkaaDoor
open Go.RowKit
attribute [local go_sem] Oper.semAt_some

set_option maxRecDepth 100000 in
set_option maxHeartbeats 8000000 in
theorem worded_any {B : Nat} {v : Value} {K : List (Value × List Nd)} {x : Nd} {W : World} (h : KdOwn W B v K) (hB : B ≤ W.heap.size) (hF : ∀ q ∈ K, ∃ d word, Fits d word q.2) (hl : (kidL K).length ≤ 3000) (h0 : K ≠ []) :
    Calls Tryd.prog 53 #[ndV x, v] W fun e w' => ∃ v', e = .returned v' ∧ NdOwn w' B v' (wordD x.kind x.n x.s (K.map Prod.snd)) ∧ Below W.heap.size W w' := by
  obtain ⟨xk, xn, xc, xz, xs⟩ := x
  obtain ⟨W1, hW1⟩ : ∃ W1, W1 = W.alloc (.cells #[.int .i64 xk, .int .i64 xn, .int .i64 xc, .int .i64 xz, str xs] 26) := ⟨_, rfl⟩
  have HW1 : Hid (W.alloc (.cells #[.int .i64 xk, .int .i64 xn, .int .i64 xc, .int .i64 xz, str xs] 26) = W1) := hW1.symm
  have HX : Hid (∀ w, Below W1.heap.size W1 w → w.cell? ⟨W.heap.size, 0, none⟩ = some (.int .i64 xk) ∧ w.cell? ⟨W.heap.size, 1, none⟩ = some (.int .i64 xn) ∧ w.cell? ⟨W.heap.size, 4, none⟩ = some (str xs)) := fun w hb => by
    have h1 : Cel W1 W.heap.size 26 #[.int .i64 xk, .int .i64 xn, .int .i64 xc, .int .i64 xz, str xs] := by rw [hW1]; exact Cel.new W _ _
    have h2 := h1.below hb h1.lt
    exact ⟨h2.cell 0, h2.cell 1, h2.cell 4⟩
  have hb1 : Below W.heap.size W W1 := by rw [hW1]; exact below_new _ _
  have HB1 : Hid (Below W.heap.size W W1) := hb1
  have HO : Hid (∀ w, Below W1.heap.size W1 w → KdOwn w B v K) := fun w hb => (h.below hb1).below hb
  have hpos : ∀ Y ∈ K.map Prod.snd, 1 ≤ Y.length := fun Y hY => by
    obtain ⟨q, hq, rfl⟩ := List.mem_map.1 hY
    obtain ⟨d, word, hf⟩ := hF q hq
    exact hf.pos
  have hKl : K.length ≤ 3000 := by
    have h1 := flat_ge (K.map Prod.snd) hpos
    rw [List.length_map] at h1
    unfold kidL at hl
    omega
  have HFL : Hid (∀ q ∈ K, (∃ d word, Fits d word q.2) ∧ 1 ≤ q.2.length ∧ q.2.length ≤ 3000) := fun q hq => ⟨hF q hq, hpos _ (List.mem_map_of_mem hq), by
    have := flat_mem (K.map Prod.snd) q.2 (List.mem_map_of_mem hq)
    unfold kidL at hl
    omega⟩
  have HN : Hid (∀ w, Below W1.heap.size W1 w → Calls Tryd.prog 15 #[.int .i64 xk, .int .i64 xn, str xs, v] w fun e w' => ∃ v', e = .returned v' ∧ NdOwn w' B v' (newN xk xn xs (K.map Prod.snd)) ∧ Below W.heap.size W w') := fun w hb => by
    have h3 := hb1.trans (hb.mono hb1.size)
    refine (new_own xk xn xs v K w ((h.below hb1).below hb).at (by omega) (by unfold kidL at hl ⊢; omega)).mono ?_
    rintro e w' ⟨v', rfl, h1, h2⟩
    exact ⟨v', rfl, owns_lower h1 (Nat.le_trans hB h3.size), h3.trans (h2.mono h3.size)⟩
  have HNop : Hid (∀ w, Below W1.heap.size W1 w → Calls Tryd.prog 17 #[.slice none 0 0] w fun e w' => ∃ v', e = .returned v' ∧ NdOwn w' B v' nopL ∧ Below W.heap.size W w') := fun w hb => by
    have h3 := hb1.trans (hb.mono hb1.size)
    refine (seqs_any (.slice none 0 0) [] w (KdAt.nil w) (by simp) (by simp [kidL])).mono ?_
    rintro e w' ⟨v', rfl, h1, h2⟩
    exact ⟨v', rfl, owns_lower h1 (Nat.le_trans hB h3.size), h3.trans (h2.mono h3.size)⟩
  have HBB : Hid (B ≤ W1.heap.size) := Nat.le_trans hB hb1.size
  obtain ⟨ad, cap, rfl⟩ := h.at.form
  clear h hF hl hpos hB hW1
  obtain ⟨R, HR⟩ : ∃ R, Hid (R = wordD xk xn xs (K.map Prod.snd)) := ⟨_, rfl⟩
  rw [← HR.out]
  match K, h0 with
  | [(qv, Y)], _ =>
    have hk1 := HO.out _ (Below.refl _ _)
    obtain ⟨g, o, cp, hv, hg, c0, hN⟩ := hk1.at.at (j := 0) (p := (qv, Y)) rfl
    injection hv with e1 _ e3
    subst e1
    subst e3
    simp only [Nat.add_zero] at c0 hN
    obtain ⟨_, hY1, hY2⟩ := HFL.out (qv, Y) (by simp)
    simp only at hY1 hY2
    obtain ⟨qa, qc, rfl⟩ := hN.form
    have HS : Hid _ := silent_any _ Y W1 hN (by omega)
    simp only [List.length_cons, List.length_nil, Nat.zero_add] at HN ⊢
    have c0' : (W.alloc (.cells #[.int .i64 xk, .int .i64 xn, .int .i64 xc, .int .i64 xz, str xs] 26)).cell? ⟨g, o, none⟩ = some (.slice qa Y.length qc) := by rw [HW1.out]; exact c0
    cases hs : hasSub Y with
    | true =>
      rw [hs] at HS
      have HRZ : Hid (R = newN xk xn xs ([(Value.slice qa Y.length qc, Y)].map Prod.snd)) := by
        unfold Hid
        rw [HR.out]
        simp only [List.map_cons, List.map_nil, wordD]
        rw [if_pos hs]
      clear hk1 hN hs HR HFL HO
      go_enter Tryd.func53, Tryd.ntmps53
      go_wp2_with fail
      rw [HW1.out]
      refine Calls.mono HS.out ?_
      rintro e w1 ⟨rfl, hb⟩
      have HB : Hid (Below W1.heap.size W1 w1) := hb
      clear hb HS c0 c0'
      obtain ⟨c0, c1, c4⟩ := HX.out _ HB.out
      have HNN : Hid _ := HN.out _ HB.out
      go_wp2_with fail
      refine Calls.mono HNN.out ?_
      rintro e wz ⟨vz, rfl, hoz, hbz⟩
      have HOZ : Hid _ := hoz
      clear hoz
      go_wp2_with fail
      go_ret
      exact ⟨_, rfl, by rw [HRZ.out]; exact HOZ.out, hbz⟩
    | false =>
      rw [hs] at HS
      have HRZ : Hid (R = nopL) := by
        unfold Hid
        rw [HR.out]
        simp only [List.map_cons, List.map_nil, wordD]
        rw [if_neg (by rw [hs]; simp)]
      clear hk1 hN hs HR HFL HO HN
      go_enter Tryd.func53, Tryd.ntmps53
      go_wp2_with fail
      rw [HW1.out]
      refine Calls.mono HS.out ?_
      rintro e w1 ⟨rfl, hb⟩
      have HB : Hid (Below W1.heap.size W1 w1) := hb
      clear hb HS c0 c0'
      have HNN : Hid _ := HNop.out _ HB.out
      go_wp2_with fail
      refine Calls.mono HNN.out ?_
      rintro e wz ⟨vz, rfl, hoz, hbz⟩
      have HOZ : Hid _ := hoz
      clear hoz
      go_wp2_with fail
      go_ret
      exact ⟨_, rfl, by rw [HRZ.out]; exact HOZ.out, hbz⟩
  | (qv, Y) :: (cv, C) :: r, _ =>
    have hk1 := HO.out _ (Below.refl _ _)
    obtain ⟨g, o, cp, hv, hg, c0, hN⟩ := hk1.at.at (j := 0) (p := (qv, Y)) rfl
    injection hv with e1 _ e3
    subst e1
    subst e3
    simp only [Nat.add_zero] at c0 hN
    obtain ⟨_, hY1, hY2⟩ := HFL.out (qv, Y) (by simp)
    obtain ⟨⟨dc, wc, hfc⟩, hC1, hC2⟩ := HFL.out (cv, C) (by simp)
    simp only at hY1 hY2 hfc hC1 hC2
    obtain ⟨qa, qc, rfl⟩ := hN.form
    obtain ⟨ca, cc, hcf⟩ : ∃ ca cc, cv = .slice ca C.length cc := by
      obtain ⟨_, _, _, _, _, _, h⟩ := hk1.at.at (j := 1) (p := (cv, C)) rfl
      exact h.form
    subst hcf
    have HC : Hid (∀ w, Below W1.heap.size W1 w → w.cell? ⟨g, o + 1, none⟩ = some (.slice ca C.length cc) ∧ NdAt w (.slice ca C.length cc) C ∧ NdOwn w B (.slice ca C.length cc) C) := fun w hb => by
      have hk := HO.out w hb
      obtain ⟨g', o', cp', hv', _, h1, h2⟩ := hk.at.at (j := 1) (p := (Value.slice ca C.length cc, C)) rfl
      injection hv' with e1 _ _
      cases e1
      exact ⟨h1, h2, hk.2 (Value.slice ca C.length cc, C) (by simp)⟩
    have HS : Hid _ := silent_any _ Y W1 hN (by omega)
    obtain ⟨n, hn⟩ : ∃ n, n = ((Value.slice qa Y.length qc, Y) :: (Value.slice ca C.length cc, C) :: r).length := ⟨_, rfl⟩
    have hn2 : 2 ≤ n := by rw [hn]; simp
    have hn3 : (n : Int) ≠ 1 := by omega
    have hn4 : ((n : Int) == 1) = false := beq_eq_false_iff_ne.2 hn3
    have hn5 : (1 : Int) < (n : Int) := by omega
    rw [← hn] at hKl HN ⊢
    have c0' : (W.alloc (.cells #[.int .i64 xk, .int .i64 xn, .int .i64 xc, .int .i64 xz, str xs] 26)).cell? ⟨g, o, none⟩ = some (.slice qa Y.length qc) := by rw [HW1.out]; exact c0
    have HFC : Hid (Fits dc wc C) := hfc
    have HCL : Hid (C.length ≤ 3000) := hC2
    have HCP : Hid (1 ≤ C.length) := hC1
    obtain ⟨NK, HNK⟩ : ∃ NK, Hid (NK = newN xk xn xs (((Value.slice qa Y.length qc, Y) :: (Value.slice ca C.length cc, C) :: r).map Prod.snd)) := ⟨_, rfl⟩
    rw [← HNK.out] at HN
    have HRR : Hid (R = if hasSub Y then NK else if kindOf C = 20 then nopL else if xk = 34 ∧ kindOf C = 34 then (match kidsL C with
      | V :: _ => if hasSub V then NK else C
      | [] => []) else NK) := by
      unfold Hid
      rw [HR.out, HNK.out]
      simp only [List.map_cons, wordD]
      rfl
    clear hk1 hN HR HFL HO hn HNK hfc hC1 hC2
    cases hs : hasSub Y with
    | true =>
      rw [hs] at HS
      have HRZ : Hid (R = NK) := by
        unfold Hid
        rw [HRR.out, if_pos hs]
      clear hs HRR
      go_enter Tryd.func53, Tryd.ntmps53
      go_wp2_with fail
      rw [HW1.out]
      refine Calls.mono HS.out ?_
      rintro e w1 ⟨rfl, hb⟩
      have HB : Hid (Below W1.heap.size W1 w1) := hb
      clear hb HS c0 c0'
      obtain ⟨c0, c1, c4⟩ := HX.out _ HB.out
      have HNN : Hid _ := HN.out _ HB.out
      go_wp2_with fail
      refine Calls.mono HNN.out ?_
      rintro e wz ⟨vz, rfl, hoz, hbz⟩
      have HOZ : Hid _ := hoz
      clear hoz
      go_wp2_with fail
      go_ret
      exact ⟨_, rfl, by rw [HRZ.out]; exact HOZ.out, hbz⟩
    | false =>
      rw [hs] at HS
      have HR2 : Hid (R = if kindOf C = 20 then nopL else if xk = 34 ∧ kindOf C = 34 then (match kidsL C with
        | V :: _ => if hasSub V then NK else C
        | [] => []) else NK) := by
        unfold Hid
        rw [HRR.out, if_neg (by rw [hs]; simp)]
      clear hs HRR
      go_enter Tryd.func53, Tryd.ntmps53
      go_wp2_with fail
      rw [HW1.out]
      refine Calls.mono HS.out ?_
      rintro e w1 ⟨rfl, hb⟩
      have HB : Hid (Below W1.heap.size W1 w1) := hb
      clear hb HS c0 c0'
      obtain ⟨d1, hCN, _⟩ := HC.out _ HB.out
      have HI20 : Hid _ := is_any _ C w1 20 hCN HCP.out
      have HI34 : Hid _ := is_any _ C w1 34 hCN HCP.out
      have HKC : Hid _ := kids_fit hCN HFC.out HCL.out
      obtain ⟨x0, _, _⟩ := HX.out _ HB.out
      clear hCN
      by_cases hk20 : kindOf C = 20
      · have hk' : (kindOf C == 20) = true := by simp [hk20]
        rw [hk'] at HI20
        have HRZ : Hid (R = nopL) := by
          unfold Hid
          rw [HR2.out, if_pos hk20]
        clear hk20 hk' HI34 HKC
        go_wp2_with fail
        refine Calls.mono HI20.out ?_
        rintro e w2 ⟨rfl, hw⟩
        obtain rfl := hw.symm
        clear hw HI20
        have HNN : Hid _ := HNop.out _ HB.out
        go_wp2_with fail
        refine Calls.mono HNN.out ?_
        rintro e wz ⟨vz, rfl, hoz, hbz⟩
        have HOZ : Hid _ := hoz
        clear hoz
        go_wp2_with fail
        go_ret
        exact ⟨_, rfl, by rw [HRZ.out]; exact HOZ.out, hbz⟩
      · have hk' : (kindOf C == 20) = false := beq_eq_false_iff_ne.2 hk20
        rw [hk'] at HI20
        have HR3 : Hid (R = if xk = 34 ∧ kindOf C = 34 then (match kidsL C with
          | V :: _ => if hasSub V then NK else C
          | [] => []) else NK) := by
          unfold Hid
          rw [HR2.out, if_neg hk20]
        clear hk20 hk' HR2
        by_cases hx34 : xk = 34
        · subst hx34
          by_cases hk34 : kindOf C = 34
          · have hk' : (kindOf C == 34) = true := by simp [hk34]
            rw [hk'] at HI34
            obtain ⟨V, U, hVU⟩ : ∃ V U, kidsL C = [V, U] := by
              obtain ⟨e, kn, ks, Zs, _, _, hqk, _, _, _, hc, hz⟩ := HFC.out.out
              rw [hk34] at hc
              rw [hqk]
              match Zs, hc with
              | [V, U], _ => exact ⟨V, U, rfl⟩
              | [], hc => exact absurd hc (by simp [cntB])
              | [_], hc => exact absurd hc (by simp [cntB])
              | _ :: _ :: _ :: r, hc => exact absurd hc (by unfold cntB; simp; omega)
            have HR4 : Hid (R = if hasSub V then NK else C) := by
              unfold Hid
              rw [HR3.out, if_pos ⟨rfl, hk34⟩, hVU]
            rw [hVU] at HKC
            have HVL : Hid (V.length ≤ 3000) := by
              obtain ⟨e, kn, ks, Zs, _, hY, hqk, _⟩ := HFC.out.out
              have h1 := congrArg List.length hY
              have h2 := HCL.out
              rw [hVU] at hqk
              rw [← hqk] at h1
              simp [newN] at h1
              unfold Hid
              omega
            clear hk34 hk' hVU HR3
            go_wp2_with fail
            refine Calls.mono HI20.out ?_
            rintro e w2 ⟨rfl, hw⟩
            obtain rfl := hw.symm
            clear hw HI20
            go_wp2_with fail
            refine Calls.mono HI34.out ?_
            rintro e w2 ⟨rfl, hw⟩
            obtain rfl := hw.symm
            clear hw HI34
            go_wp2_with fail
            refine Calls.mono HKC.out ?_
            rintro e w2 ⟨v2, K2, rfl, hk2, hs2, hb2⟩
            obtain ⟨vv, uv, rfl⟩ : ∃ vv uv, K2 = [(vv, V), (uv, U)] := by
              match K2, hs2 with
              | [a, b], hs2 =>
                simp at hs2
                exact ⟨a.1, b.1, by rw [← hs2.1, ← hs2.2]⟩
            obtain ⟨g2, o2, cp2, rfl, hg2, cz, hNz⟩ := hk2.at.at (j := 0) (p := (vv, V)) rfl
            simp only [Nat.add_zero] at cz hNz
            have HSV : Hid _ := silent_any vv V w2 hNz (by have := HVL.out; omega)
            have HB2 : Hid (Below W1.heap.size W1 w2) := HB.out.trans (hb2.mono HB.out.size)
            obtain ⟨za, zc, rfl⟩ := hNz.form
            simp only [List.length_cons, List.length_nil, Nat.zero_add]
            clear hk2 hs2 hb2 hNz HKC
            cases hsv : hasSub V with
            | true =>
              rw [hsv] at HSV
              have HRZ : Hid (R = NK) := by
                unfold Hid
                rw [HR4.out, if_pos hsv]
              clear hsv HR4
              go_wp2_with fail
              refine Calls.mono HSV.out ?_
              rintro e w3 ⟨rfl, hb⟩
              have HB3 : Hid (Below W1.heap.size W1 w3) := HB2.out.trans (hb.mono HB2.out.size)
              clear hb HSV cz d1 x0
              obtain ⟨c0, c1, c4⟩ := HX.out _ HB3.out
              have HNN : Hid _ := HN.out _ HB3.out
              go_wp2_with fail
              refine Calls.mono HNN.out ?_
              rintro e wz ⟨vz, rfl, hoz, hbz⟩
              have HOZ : Hid _ := hoz
              clear hoz
              go_wp2_with fail
              go_ret
              exact ⟨_, rfl, by rw [HRZ.out]; exact HOZ.out, hbz⟩
            | false =>
              rw [hsv] at HSV
              have HRZ : Hid (R = C) := by
                unfold Hid
                rw [HR4.out, if_neg (by rw [hsv]; simp)]
              clear hsv HR4
              go_wp2_with fail
              refine Calls.mono HSV.out ?_
              rintro e w3 ⟨rfl, hb⟩
              have HB3 : Hid (Below W1.heap.size W1 w3) := HB2.out.trans (hb.mono HB2.out.size)
              clear hb HSV cz d1 x0
              obtain ⟨d3, _, hO3⟩ := HC.out _ HB3.out
              have HO3 : Hid _ := hO3
              clear hO3
              go_wp2_with fail
              go_ret
              exact ⟨_, rfl, by rw [HRZ.out]; exact HO3.out, HB1.out.trans (HB3.out.mono HB1.out.size)⟩
          · have hk' : (kindOf C == 34) = false := beq_eq_false_iff_ne.2 hk34
            rw [hk'] at HI34
            have HRZ : Hid (R = NK) := by
              unfold Hid
              rw [HR3.out, if_neg (fun e => hk34 e.2)]
            clear hk34 hk' HR3 HKC
            go_wp2_with fail
            refine Calls.mono HI20.out ?_
            rintro e w2 ⟨rfl, hw⟩
            obtain rfl := hw.symm
            clear hw HI20
            go_wp2_with fail
            refine Calls.mono HI34.out ?_
            rintro e w2 ⟨rfl, hw⟩
            obtain rfl := hw.symm
            clear hw HI34 d1 x0
            obtain ⟨c0, c1, c4⟩ := HX.out _ HB.out
            have HNN : Hid _ := HN.out _ HB.out
            go_wp2_with fail
            refine Calls.mono HNN.out ?_
            rintro e wz ⟨vz, rfl, hoz, hbz⟩
            have HOZ : Hid _ := hoz
            clear hoz
            go_wp2_with fail
            go_ret
            exact ⟨_, rfl, by rw [HRZ.out]; exact HOZ.out, hbz⟩
        · have hx' : (xk == 34) = false := beq_eq_false_iff_ne.2 hx34
          have HRZ : Hid (R = NK) := by
            unfold Hid
            rw [HR3.out, if_neg (fun e => hx34 e.1)]
          clear HR3 HKC HI34
          go_wp2_with fail
          refine Calls.mono HI20.out ?_
          rintro e w2 ⟨rfl, hw⟩
          obtain rfl := hw.symm
          clear hw HI20 d1
          obtain ⟨_, c1, c4⟩ := HX.out _ HB.out
          have HNN : Hid _ := HN.out _ HB.out
          go_wp2_with fail
          refine Calls.mono HNN.out ?_
          rintro e wz ⟨vz, rfl, hoz, hbz⟩
          have HOZ : Hid _ := hoz
          clear hoz
          go_wp2_with fail
          go_ret
          exact ⟨_, rfl, by rw [HRZ.out]; exact HOZ.out, hbz⟩
end Go.Proofs.YtfakelaibijgkaaDoor
