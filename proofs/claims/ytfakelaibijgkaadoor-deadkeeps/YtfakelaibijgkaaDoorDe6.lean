/- What hangs on the status of its first: an If, And or Or. -/
import Derived.Test.YtfakelaibijgkaaDoorDe5
import Derived.Deep.RegionHeld3
namespace Go.Proofs.YtfakelaibijgkaaDoor
open Go.RowKit
attribute [local go_sem] Oper.semAt_some

/-- The node of an If, And or Or is put as choice has it. -/
theorem put_cho {v : Value} {x : Nd} {W : World} {P : Value → World → Prop} (hk : x.kind = 24 ∨ x.kind = 25 ∨ x.kind = 26)
    (hC : Calls Tryd.prog 51 #[ndV x, v] (W.alloc (.cells #[.int .i64 x.kind, .int .i64 x.n, .int .i64 x.k, .int .i64 x.size, str x.s] 26)) fun e w' => ∃ v', e = .returned v' ∧ P v' w') :
    Calls Tryd.prog 33 #[ndV x, v] W fun e w' => ∃ v', e = .returned v' ∧ P v' w' := by
  obtain ⟨xk, xn, xc, xz, xs⟩ := x
  simp only at hk hC
  have HC : Hid _ := hC
  clear hC
  rcases hk with rfl | rfl | rfl
  all_goals
    go_enter Tryd.func33, Tryd.ntmps33
    go_wp2_with fail
    refine Calls.mono HC.out ?_
    rintro e w1 ⟨v1, rfl, hp⟩
    go_wp2_with fail
    go_ret
    exact ⟨_, rfl, hp⟩
theorem Fits.ups {d e : Nat} {word : Bool} {Y : List Nd} (h : Fits d word Y) (he : d ≤ e) : Fits e word Y := by
  induction he with
  | refl => exact h
  | step _ ih => exact ih.up
/-- What choice answers. -/
def ChoC (f : Nat) : Prop := ∀ (d g B : Nat) (v : Value) (K : List (Value × List Nd)) (x : Nd) (W : World), KdOwn W B v K → B ≤ W.heap.size → (x.kind = 24 ∨ x.kind = 25 ∨ x.kind = 26) → cntB x.kind K.length = true → (∀ q ∈ K, Fits d false q.2) → (∀ q, K[0]? = some q → Fits g false q.2) → g ≤ f → (kidL K).length ≤ 3000 →
  Calls Tryd.prog 51 #[ndV x, v] W fun e w' => ∃ v', e = .returned v' ∧ (NdOwn w' B v' (choD (f + 1) x.kind x.n x.s (K.map Prod.snd)) ∧ Below W.heap.size W w')
theorem KdOwn.three {W : World} {B : Nat} {a b c : Value} {X Y Z : List Nd} (hB : B ≤ W.heap.size) (ha : NdOwn W B a X) (hb : NdOwn W B b Y) (hc : NdOwn W B c Z) : KdOwn (W.alloc (.cells #[a, b, c] 22)) B (.slice (some ⟨W.heap.size, 0, none⟩) 3 3) [(a, X), (b, Y), (c, Z)] := by
  have hn := below_new W (.cells #[a, b, c] 22)
  refine ⟨World.ownsRow_lit (base := B) (e := 22) (size := 1) W #[a, b, c] 3 hB (by decide) rfl, fun p hp => ?_⟩
  simp only [List.mem_cons, List.not_mem_nil, or_false] at hp
  rcases hp with rfl | rfl | rfl
  · exact ha.below hn
  · exact hb.below hn
  · exact hc.below hn
/-- What is told of the world while an If is put anew. -/
def StC (b g o : Nat) (xn xc xz : Int) (xs : Txt) (gv hv : Value) (w : World) : Prop :=
  w.cell? ⟨b, 0, none⟩ = some (.int .i64 24) ∧ w.cell? ⟨b, 1, none⟩ = some (.int .i64 xn) ∧ w.cell? ⟨b, 2, none⟩ = some (.int .i64 xc) ∧ w.cell? ⟨b, 3, none⟩ = some (.int .i64 xz) ∧ w.cell? ⟨b, 4, none⟩ = some (str xs) ∧ w.cell? ⟨g, o + 1, none⟩ = some gv ∧ w.cell? ⟨g, o + 2, none⟩ = some hv
theorem one_kid {w : World} {B : Nat} {v : Value} {K : List (Value × List Nd)} {Z : List Nd} (h : KdOwn w B v K) (hs : K.map Prod.snd = [Z]) : ∃ za zc g o cp, v = .slice (some ⟨g, o, none⟩) 1 cp ∧ w.cell? ⟨g, o, none⟩ = some (.slice za Z.length zc) ∧ NdOwn w B (.slice za Z.length zc) Z := by
  obtain ⟨zv, rfl⟩ : ∃ zv, K = [(zv, Z)] := by
    match K, hs with
    | [q], hs =>
      simp at hs
      exact ⟨q.1, by rw [← hs]⟩
  obtain ⟨g, o, cp, rfl, _, cz, hN⟩ := h.at.at (j := 0) (p := (zv, Z)) rfl
  obtain ⟨za, zc, e⟩ := hN.form
  simp only at e
  subst e
  exact ⟨za, zc, g, o, cp, rfl, cz, h.2 (Value.slice za Z.length zc, Z) (by simp)⟩
set_option maxRecDepth 100000 in
set_option maxHeartbeats 8000000 in
theorem choice_step (f : Nat) (IH : ∀ f', f = f' + 1 → ChoC f') : ChoC f := by
  intro d g B v K x W h hB hk hc hF hg hgf hl
  obtain ⟨xk, xn, xc, xz, xs⟩ := x
  simp only at hk hc
  have HIH : Hid (∀ f', f = f' + 1 → ChoC f') := IH
  obtain ⟨W1, hW1⟩ : ∃ W1, W1 = W.alloc (.cells #[.int .i64 xk, .int .i64 xn, .int .i64 xc, .int .i64 xz, str xs] 26) := ⟨_, rfl⟩
  have HW1 : Hid (W.alloc (.cells #[.int .i64 xk, .int .i64 xn, .int .i64 xc, .int .i64 xz, str xs] 26) = W1) := hW1.symm
  have hb1 : Below W.heap.size W W1 := by rw [hW1]; exact below_new _ _
  have HB1 : Hid (Below W.heap.size W W1) := hb1
  have HX : Hid (∀ w, Below W1.heap.size W1 w → Cel w W.heap.size 26 #[.int .i64 xk, .int .i64 xn, .int .i64 xc, .int .i64 xz, str xs]) := fun w hb => by
    have h1 : Cel W1 W.heap.size 26 #[.int .i64 xk, .int .i64 xn, .int .i64 xc, .int .i64 xz, str xs] := by rw [hW1]; exact Cel.new W _ _
    exact h1.below hb h1.lt
  have hpos : ∀ Y ∈ K.map Prod.snd, 1 ≤ Y.length := fun Y hY => by
    obtain ⟨q, hq, rfl⟩ := List.mem_map.1 hY
    exact (hF q hq).pos
  have hKl : K.length ≤ 3000 := by
    have h1 := flat_ge (K.map Prod.snd) hpos
    rw [List.length_map] at h1
    unfold kidL at hl
    omega
  have HL : Hid (∀ q ∈ K, q.2.length ≤ 3000) := fun q hq => by
    have := flat_mem (K.map Prod.snd) q.2 (List.mem_map_of_mem hq)
    unfold kidL at hl
    omega
  have HN : Hid (∀ w, Below W1.heap.size W1 w → Calls Tryd.prog 15 #[.int .i64 xk, .int .i64 xn, str xs, v] w fun e w' => ∃ v', e = .returned v' ∧ NdOwn w' B v' (newN xk xn xs (K.map Prod.snd)) ∧ Below W.heap.size W w') := fun w hb => by
    have h3 := hb1.trans (hb.mono hb1.size)
    refine (new_own xk xn xs v K w ((h.below hb1).below hb).at (by omega) (by unfold kidL at hl ⊢; omega)).mono ?_
    rintro e w' ⟨v', rfl, h1, h2⟩
    exact ⟨v', rfl, owns_lower h1 (Nat.le_trans hB h3.size), h3.trans (h2.mono h3.size)⟩
  have HBB : Hid (B ≤ W1.heap.size) := Nat.le_trans hB hb1.size
  have HO : Hid (∀ w, Below W1.heap.size W1 w → KdOwn w B v K) := fun w hb => (h.below hb1).below hb
  obtain ⟨ad, cap, rfl⟩ := h.at.form
  have HKL : Hid ((kidL K).length ≤ 3000) := hl
  clear h hb1 hW1 hB hpos IH hl
  match K, hc, hF, hg with
  | [], hc, _, _ => exact absurd hc (by rcases hk with rfl | rfl | rfl <;> decide)
  | [_], hc, _, _ => exact absurd hc (by rcases hk with rfl | rfl | rfl <;> simp [cntB])
  | (fv, F) :: (gv, G) :: r, hc, hF, hg =>
    obtain ⟨R, HR⟩ : ∃ R, Hid (R = choD (f + 1) xk xn xs (((fv, F) :: (gv, G) :: r).map Prod.snd)) := ⟨_, rfl⟩
    obtain ⟨NK, HNK⟩ : ∃ NK, Hid (NK = newN xk xn xs (((fv, F) :: (gv, G) :: r).map Prod.snd)) := ⟨_, rfl⟩
    rw [← HNK.out] at HN
    have hk1 := HO.out _ (Below.refl _ _)
    obtain ⟨fa, fc, hff⟩ := (hk1.at.2 (fv, F) (by simp)).form
    obtain ⟨ga, gc, hgf'⟩ := (hk1.at.2 (gv, G) (by simp)).form
    simp only at hff hgf'
    subst hff
    subst hgf'
    obtain ⟨g1, o, cp, hv, hg1, c0, hN⟩ := hk1.at.at (j := 0) (p := (Value.slice fa F.length fc, F)) rfl
    injection hv with e1 _ e3
    subst e1
    subst e3
    obtain ⟨g1', o', cp', hv', _, c1, _⟩ := hk1.at.at (j := 1) (p := (Value.slice ga G.length gc, G)) rfl
    injection hv' with e1 _ e3
    cases e1
    cases e3
    simp only [Nat.add_zero] at c0 hN c1
    have hfF : Fits g false F := hg _ rfl
    have hfG : Fits d false G := hF (Value.slice ga G.length gc, G) (by simp)
    have hFl : F.length ≤ 3000 := HL.out (Value.slice fa F.length fc, F) (by simp)
    have HFO : Hid (NdOwn W1 B (.slice fa F.length fc) F) := hk1.2 (Value.slice fa F.length fc, F) (by simp)
    have HGO : Hid (NdOwn W1 B (.slice ga G.length gc) G) := hk1.2 (Value.slice ga G.length gc, G) (by simp)
    have HI20 : Hid _ := is_any _ F W1 20 hN hfF.pos
    have HI27 : Hid _ := is_any _ F W1 27 hN hfF.pos
    have HKF : Hid _ := kids_fit hN hfF hFl
    have HFF : Hid (Fits g false F) := hfF
    have HFG : Hid (Fits d false G) := hfG
    obtain ⟨n, hn⟩ : ∃ n, n = ((Value.slice fa F.length fc, F) :: (Value.slice ga G.length gc, G) :: r).length := ⟨_, rfl⟩
    have hn2 : 2 ≤ n := by rw [hn]; simp
    have hn4 : (0 : Int) < (n : Int) := by omega
    have hn5 : (1 : Int) < (n : Int) := by omega
    have HCL : Hid (cntB xk ((Value.slice fa F.length fc, F) :: (Value.slice ga G.length gc, G) :: r).length = true) := hc
    have HFK : Hid (∀ q ∈ (Value.slice fa F.length fc, F) :: (Value.slice ga G.length gc, G) :: r, Fits d false q.2) := hF
    have HNL : Hid (n = ((Value.slice fa F.length fc, F) :: (Value.slice ga G.length gc, G) :: r).length) := hn
    rw [← hn] at hKl HN HO ⊢
    have c0' : (W.alloc (.cells #[.int .i64 xk, .int .i64 xn, .int .i64 xc, .int .i64 xz, str xs] 26)).cell? ⟨g1, o, none⟩ = some (.slice fa F.length fc) := by rw [HW1.out]; exact c0
    have hX := HX.out _ (Below.refl _ _)
    have x0 : W1.cell? ⟨W.heap.size, 0, none⟩ = some (.int .i64 xk) := hX.cell 0
    have x1 : W1.cell? ⟨W.heap.size, 1, none⟩ = some (.int .i64 xn) := hX.cell 1
    have x4 : W1.cell? ⟨W.heap.size, 4, none⟩ = some (str xs) := hX.cell 4
    rw [← HR.out]
    clear hk1 hN hfF hfG hc hF hg hX hn
    by_cases hk20 : kindOf F = 20
    · have hk' : (kindOf F == 20) = true := by simp [hk20]
      rw [hk'] at HI20
      have HRZ0 : Hid (R = if xk = 26 then F else G) := by
        unfold Hid
        rw [HR.out]
        simp only [List.map_cons, choD]
        by_cases e : xk = 26
        · rw [if_pos ⟨e, hk20⟩, if_pos e]
        · rw [if_neg (fun q => e q.1), if_pos hk20, if_neg e]
      clear hk20 hk' HR HKF HI27 HIH HKL HFF HFG HFK HCL HNL HX HO HN HNK HL
      rcases hk with rfl | rfl | rfl
      · have HRZ : Hid (R = G) := HRZ0.out
        clear HRZ0
        go_enter Tryd.func51, Tryd.ntmps51
        go_upto_region 2 with fail
        rw [HW1.out]
        go_wp2_with fail
        refine Calls.mono HI20.out ?_
        rintro e w1 ⟨rfl, hw⟩
        obtain rfl := hw.symm
        clear hw
        go_wp2_with fail
        go_ret
        exact ⟨_, rfl, by rw [HRZ.out]; exact HGO.out, HB1.out⟩
      · have HRZ : Hid (R = G) := HRZ0.out
        clear HRZ0
        go_enter Tryd.func51, Tryd.ntmps51
        go_upto_region 2 with fail
        rw [HW1.out]
        go_wp2_with fail
        refine Calls.mono HI20.out ?_
        rintro e w1 ⟨rfl, hw⟩
        obtain rfl := hw.symm
        clear hw
        go_wp2_with fail
        go_ret
        exact ⟨_, rfl, by rw [HRZ.out]; exact HGO.out, HB1.out⟩
      · have HRZ : Hid (R = F) := HRZ0.out
        clear HRZ0
        go_enter Tryd.func51, Tryd.ntmps51
        go_upto_region 2 with fail
        rw [HW1.out]
        go_wp2_with fail
        refine Calls.mono HI20.out ?_
        rintro e w1 ⟨rfl, hw⟩
        obtain rfl := hw.symm
        clear hw
        go_wp2_with fail
        go_ret
        exact ⟨_, rfl, by rw [HRZ.out]; exact HFO.out, HB1.out⟩
    · have hk' : (kindOf F == 20) = false := beq_eq_false_iff_ne.2 hk20
      rw [hk'] at HI20
      have HRN : Hid (¬ (xk = 24 ∧ kindOf F = 27) → R = NK) := fun e => by
        rw [HR.out, HNK.out]
        simp only [List.map_cons, choD]
        rw [if_neg (fun q => hk20 q.2), if_neg hk20, if_neg e]
      rcases hk with rfl | rfl | rfl
      · by_cases hk27 : kindOf F = 27
        · have hk' : (kindOf F == 27) = true := by simp [hk27]
          rw [hk'] at HI27
          obtain ⟨Bk, e, hkb, hge, hfb⟩ : ∃ Bk e, kidsL F = [Bk] ∧ g = e + 1 ∧ Fits e false Bk := by
            obtain ⟨e, kn, ks, Zs, hge, _, hqk, _, _, _, hc, hz⟩ := HFF.out.out
            rw [hk27] at hc hz
            rw [hqk]
            match Zs, hc, hz with
            | [], hc, _ => exact absurd hc (by simp [cntB])
            | [Z], _, hz => exact ⟨Z, e, rfl, hge, by have := hz 0 Z rfl; rw [not_word] at this; exact this⟩
            | _ :: _ :: _, hc, _ => exact absurd hc (by unfold cntB; simp; omega)
          obtain ⟨hv, H, rfl⟩ : ∃ hv H, r = [(hv, H)] := by
            have hc := HCL.out
            match r, hc with
            | [q], _ => exact ⟨q.1, q.2, rfl⟩
            | [], hc => exact absurd hc (by simp [cntB])
            | _ :: _ :: _, hc => exact absurd hc (by unfold cntB; simp; omega)
          obtain ⟨f', rfl⟩ : ∃ f', f = f' + 1 := ⟨f - 1, by omega⟩
          have hIH := HIH.out f' rfl
          have hRZ : R = choD (f' + 1) 24 xn xs [Bk, H, G] := by
            rw [HR.out]
            simp only [List.map_cons, List.map_nil]
            rw [choD, if_neg (fun q => hk20 q.2), if_neg hk20, if_pos ⟨rfl, hk27⟩, hkb]
          have hn3 : n = 3 := by rw [HNL.out]; rfl
          subst hn3
          have hfl : F.length = Bk.length + 1 := by
            obtain ⟨e', kn, ks, Zs, _, hY, hqk, _⟩ := HFF.out.out
            rw [hkb] at hqk
            have h1 := congrArg List.length hY
            rw [← hqk] at h1
            simpa [newN] using h1
          have hkl0 := HKL.out
          simp only [kidL, List.map_cons, List.map_nil, List.flatten_cons, List.flatten_nil, List.length_append, List.length_nil] at hkl0
          have HH : Hid (∀ w, Below W1.heap.size W1 w → w.cell? ⟨g1, o + 2, none⟩ = some hv ∧ NdOwn w B hv H ∧ NdOwn w B (.slice ga G.length gc) G ∧ Fits d false H) := fun w hb => by
            have hk := HO.out w hb
            obtain ⟨g', o', cp', hv', _, h1, h2⟩ := hk.at.at (j := 2) (p := (hv, H)) rfl
            injection hv' with e1 _ _
            cases e1
            exact ⟨h1, hk.2 (hv, H) (by simp), hk.2 (Value.slice ga G.length gc, G) (by simp), HFK.out (hv, H) (by simp)⟩
          have HPut : Hid (∀ (w : World) (bv : Value), Below W1.heap.size W1 w → NdOwn w B bv Bk → Calls Tryd.prog 33 #[ndV ⟨24, xn, xc, xz, xs⟩, .slice (some ⟨w.heap.size, 0, none⟩) 3 3] (w.alloc (.cells #[bv, hv, .slice ga G.length gc] 22)) fun e w' => ∃ v', e = .returned v' ∧ (NdOwn w' B v' R ∧ Below W1.heap.size W1 w')) := fun w bv hb hbo => by
            obtain ⟨_, hHo, hGo, hFH⟩ := HH.out w hb
            have hBw : B ≤ w.heap.size := Nat.le_trans HBB.out hb.size
            have hk3 := KdOwn.three hBw hbo hHo hGo
            have hb2 : Below W1.heap.size W1 (w.alloc (.cells #[bv, hv, .slice ga G.length gc] 22)) := hb.alloc hb.size _
            have hb3 := hb2.alloc hb2.size (.cells #[.int .i64 24, .int .i64 xn, .int .i64 xc, .int .i64 xz, str xs] 26)
            refine put_cho (x := ⟨24, xn, xc, xz, xs⟩) (Or.inl rfl) ?_
            have hfb30 : Fits (max d e) false Bk := hfb.ups (Nat.le_max_right _ _)
            refine (hIH (max d e) e B _ _ ⟨24, xn, xc, xz, xs⟩ _ (hk3.below (below_new _ _)) (Nat.le_trans HBB.out hb3.size) (Or.inl rfl) rfl (fun q hq => ?_) (fun q hq => ?_) (by omega) ?_).mono ?_
            · simp only [List.mem_cons, List.not_mem_nil, or_false] at hq
              rcases hq with rfl | rfl | rfl
              · exact hfb30
              · exact hFH.ups (Nat.le_max_left _ _)
              · exact HFG.out.ups (Nat.le_max_left _ _)
            · rw [List.getElem?_cons_zero] at hq
              obtain rfl := Option.some.inj hq
              exact hfb
            · simp only [kidL, List.map_cons, List.map_nil, List.flatten_cons, List.flatten_nil, List.length_append, List.length_nil]
              omega
            · rintro e' w' ⟨v', rfl, h1, h2⟩
              refine ⟨v', rfl, ?_, hb3.trans (h2.mono hb3.size)⟩
              rw [hRZ]
              exact h1
          have HKF2 : Hid (∀ w, Below W1.heap.size W1 w → Calls Tryd.prog 32 #[.slice fa F.length fc] w fun e w' => ∃ za zc g o cp, e = .returned (.slice (some ⟨g, o, none⟩) 1 cp) ∧ w'.cell? ⟨g, o, none⟩ = some (.slice za Bk.length zc) ∧ NdOwn w' B (.slice za Bk.length zc) Bk ∧ Below W1.heap.size W1 w') := fun w hb => by
            refine (kids_fit (NdAt.below HFO.out.at hb (Nat.le_refl _)) HFF.out (by omega)).mono ?_
            rintro e' w' ⟨v', K', rfl, h1, h2, h3⟩
            rw [hkb] at h2
            obtain ⟨za, zc, g', o', cp', rfl, h4, h5⟩ := one_kid h1 h2
            exact ⟨za, zc, g', o', cp', rfl, h4, owns_lower h5 (by have := hb.size; have := HBB.out; omega), hb.trans (h3.mono hb.size)⟩
          obtain ⟨ha, hcp, hvf⟩ := (HH.out _ (Below.refl _ _)).2.1.at.form
          subst hvf
          have HS : Hid (∀ w, Below W1.heap.size W1 w → StC W.heap.size g1 o xn xc xz xs (.slice ga G.length gc) (.slice ha H.length hcp) w) := fun w hb => by
            have h := HX.out w hb
            exact ⟨h.cell 0, h.cell 1, h.cell 2, h.cell 3, h.cell 4, (hb.cell (p := ⟨g1, o + 1, none⟩) (World.block_lt_of_cell? W1 _ c1)).trans c1, (HH.out w hb).1⟩
          have hd1 : Below W1.heap.size W1 W1.drew := (Below.refl _ W1).drew
          clear hk20 hk27 hk' HR HKF HIH HKL HFF HFG HFK HCL HNL HX HO HNK HL HRN HN hIH hRZ hfb hkb hkl0 hfl HH
          go_enter Tryd.func51, Tryd.ntmps51
          go_upto_region 2 with fail
          rw [HW1.out]
          go_wp2_with fail
          refine Calls.mono HI20.out ?_
          rintro e w1 ⟨rfl, hw⟩
          obtain rfl := hw.symm
          clear hw
          go_wp2_with fail
          refine Calls.mono HI27.out ?_
          rintro e w1 ⟨rfl, hw⟩
          obtain rfl := hw.symm
          clear hw
          have HS0 : Hid (StC W.heap.size g1 o xn xc xz xs (.slice ga G.length gc) (.slice ha H.length hcp) W1.drew) := HS.out _ hd1
          have HKD : Hid _ := HKF2.out _ hd1
          go_upto_region 7 with fail
          refine wp_region_held (S := StC W.heap.size g1 o xn xc xz xs (.slice ga G.length gc) (.slice ha H.length hcp)) (by kernel_rfl) ?_
          change wpAnyH _ _ _ _ _ _ _ _ (World.drew _)
          refine wpAnyH_take (i := 0) (v := .agg #[.int .i64 24, .int .i64 xn, .int .i64 xc, .int .i64 xz, str xs]) rfl (by kernel_rfl) (by kernel_rfl) (by kernel_rfl) (fun _ _ _ h => h) (Or.inl ⟨by rfl, fun wz hS => by obtain ⟨s0, s1, s2, s3, s4, s5, s6⟩ := hS; go_simp⟩) HS0.out ?_
          try simp only [Act.put, List.getElem_toArray, List.getElem_cons_zero, List.setIfInBounds_toArray, List.set_cons_zero, List.set_cons_succ]
          refine wpAnyH_take (i := 1) (v := .slice fa F.length fc) rfl (by kernel_rfl) (by kernel_rfl) (by kernel_rfl) (fun _ _ _ h => h) (Yields.yieldsIf (Or.inl ⟨by rfl, by intro wz; go_simp⟩)) HS0.out ?_
          try simp only [Act.put, List.getElem_toArray, List.getElem_cons_succ, List.getElem_cons_zero, List.setIfInBounds_toArray, List.set_cons_zero, List.set_cons_succ]
          refine wpAnyH_take (i := 5) (v := (.slice (some ⟨g1, o, none⟩) 3 cap)) rfl (by kernel_rfl) (by kernel_rfl) (by kernel_rfl) (fun _ _ _ h => h) (Yields.yieldsIf (Or.inl ⟨by rfl, by intro wz; go_simp⟩)) HS0.out ?_
          try simp only [Act.put, List.getElem_toArray, List.getElem_cons_succ, List.getElem_cons_zero, List.setIfInBounds_toArray, List.set_cons_zero, List.set_cons_succ]
          refine wpAnyH_take (i := 6) (v := .pointer (some ⟨g1, o + 2, none⟩)) rfl (by kernel_rfl) (by kernel_rfl) (by kernel_rfl) (fun _ _ _ h => h) (Yields.yieldsIf (Or.inl ⟨by rfl, by intro wz; go_simp⟩)) HS0.out ?_
          try simp only [Act.put, List.getElem_toArray, List.getElem_cons_succ, List.getElem_cons_zero, List.setIfInBounds_toArray, List.set_cons_zero, List.set_cons_succ]
          refine wpAnyH_take (i := 7) (v := .slice ha H.length hcp) rfl (by kernel_rfl) (by kernel_rfl) (by kernel_rfl) (fun _ _ _ h => h) (Or.inl ⟨by rfl, fun wz hS => by obtain ⟨s0, s1, s2, s3, s4, s5, s6⟩ := hS; go_simp⟩) HS0.out ?_
          try simp only [Act.put, List.getElem_toArray, List.getElem_cons_succ, List.getElem_cons_zero, List.setIfInBounds_toArray, List.set_cons_zero, List.set_cons_succ]
          refine wpAnyH_take (i := 8) (v := (.slice (some ⟨g1, o, none⟩) 3 cap)) rfl (by kernel_rfl) (by kernel_rfl) (by kernel_rfl) (fun _ _ _ h => h) (Yields.yieldsIf (Or.inl ⟨by rfl, by intro wz; go_simp⟩)) HS0.out ?_
          try simp only [Act.put, List.getElem_toArray, List.getElem_cons_succ, List.getElem_cons_zero, List.setIfInBounds_toArray, List.set_cons_zero, List.set_cons_succ]
          refine wpAnyH_take (i := 9) (v := .pointer (some ⟨g1, o + 1, none⟩)) rfl (by kernel_rfl) (by kernel_rfl) (by kernel_rfl) (fun _ _ _ h => h) (Yields.yieldsIf (Or.inl ⟨by rfl, by intro wz; go_simp⟩)) HS0.out ?_
          try simp only [Act.put, List.getElem_toArray, List.getElem_cons_succ, List.getElem_cons_zero, List.setIfInBounds_toArray, List.set_cons_zero, List.set_cons_succ]
          refine wpAnyH_take (i := 10) (v := .slice ga G.length gc) rfl (by kernel_rfl) (by kernel_rfl) (by kernel_rfl) (fun _ _ _ h => h) (Or.inl ⟨by rfl, fun wz hS => by obtain ⟨s0, s1, s2, s3, s4, s5, s6⟩ := hS; go_simp⟩) HS0.out ?_
          try simp only [Act.put, List.getElem_toArray, List.getElem_cons_succ, List.getElem_cons_zero, List.setIfInBounds_toArray, List.set_cons_zero, List.set_cons_succ]
          refine wpAnyH_ready (rs := [2]) (by kernel_rfl) (by simp) ?_
          refine AllReadyH.cons rfl (fun K' hK => ?_) AllReadyH.nil
          go_simp
          refine Calls.mono HKD.out ?_
          rintro e w5 ⟨za, zc, g5, o5, cp5, rfl, cz, hO5, hb5⟩
          have HS5 : Hid (StC W.heap.size g1 o xn xc xz xs (.slice ga G.length gc) (.slice ha H.length hcp) w5) := HS.out _ hb5
          have HO5 : Hid (NdOwn w5 B (.slice za Bk.length zc) Bk) := hO5
          have HB5 : Hid (Below W1.heap.size W1 w5) := hb5
          refine hK.out _ _ HS5.out (fun hS5 => ?_)
          clear hK K' hO5 hb5 HKD hS5
          try simp only [Act.put, List.getElem_toArray, List.getElem_cons_succ, List.getElem_cons_zero, List.setIfInBounds_toArray, List.set_cons_zero, List.set_cons_succ]
          refine wpAnyH_take (i := 3) (v := .pointer (some ⟨g5, o5, none⟩)) rfl (by kernel_rfl) (by kernel_rfl) (by kernel_rfl) (fun _ _ _ h => h) (Yields.yieldsIf (Or.inl ⟨by rfl, by intro wz; go_simp⟩)) HS5.out ?_
          try simp only [Act.put, List.getElem_toArray, List.getElem_cons_succ, List.getElem_cons_zero, List.setIfInBounds_toArray, List.set_cons_zero, List.set_cons_succ]
          refine wpAnyH_ready (rs := [4]) (by kernel_rfl) (by simp) ?_
          refine AllReadyH.cons rfl (fun K' hK => ?_) AllReadyH.nil
          go_simp
          refine hK.out _ _ HS5.out (fun hS5 => ?_)
          clear hK K' hS5
          try simp only [Act.put, List.getElem_toArray, List.getElem_cons_succ, List.getElem_cons_zero, List.setIfInBounds_toArray, List.set_cons_zero, List.set_cons_succ]
          have hb6 : Below W1.heap.size W1 (w5.alloc (.cells #[.slice za Bk.length zc, .slice ha H.length hcp, .slice ga G.length gc] 22)) := HB5.out.alloc HB5.out.size _
          have HS6 : Hid (StC W.heap.size g1 o xn xc xz xs (.slice ga G.length gc) (.slice ha H.length hcp) (w5.alloc (.cells #[.slice za Bk.length zc, .slice ha H.length hcp, .slice ga G.length gc] 22))) := HS.out _ hb6
          clear hb6
          refine wpAnyH_ready (rs := [11]) (by kernel_rfl) (by simp) ?_
          refine AllReadyH.cons rfl (fun K' hK => ?_) AllReadyH.nil
          go_simp
          refine hK.out _ _ HS6.out (fun hS5 => ?_)
          clear hK K' hS5
          try simp only [Act.put, List.getElem_toArray, List.getElem_cons_succ, List.getElem_cons_zero, List.setIfInBounds_toArray, List.set_cons_zero, List.set_cons_succ]
          refine wpAnyH_ready (rs := [12]) (by kernel_rfl) (by simp) ?_
          refine AllReadyH.cons rfl (fun K' hK => ?_) AllReadyH.nil
          go_simp
          refine Calls.mono (HPut.out w5 _ HB5.out HO5.out) ?_
          rintro e w6 ⟨v6, rfl, hO6, hb6⟩
          have HS7 : Hid (StC W.heap.size g1 o xn xc xz xs (.slice ga G.length gc) (.slice ha H.length hcp) w6) := HS.out _ hb6
          refine hK.out _ _ HS7.out (fun hS5 => ?_)
          clear hK K' hS5
          try simp only [Act.put, List.getElem_toArray, List.getElem_cons_succ, List.getElem_cons_zero, List.setIfInBounds_toArray, List.set_cons_zero, List.set_cons_succ]
          refine wpAnyH_ready (rs := [13]) (by kernel_rfl) (by simp) ?_
          refine AllReadyH.cons rfl (fun K' hK => ?_) AllReadyH.nil
          go_simp
          refine hK.out _ _ HS7.out (fun hS5 => ?_)
          clear hK K' hS5
          refine wpAnyH_done (by kernel_rfl) ?_ _
          have HO6 : Hid (NdOwn w6 B v6 R) := hO6
          have HB6 : Hid (Below W.heap.size W w6) := HB1.out.trans (hb6.mono HB1.out.size)
          clear hO6 hb6
          go_wp2_with fail
          go_ret
          exact ⟨_, rfl, HO6.out, HB6.out⟩
        · have hk' : (kindOf F == 27) = false := beq_eq_false_iff_ne.2 hk27
          rw [hk'] at HI27
          have HRZ : Hid (R = NK) := HRN.out (fun e => hk27 e.2)
          clear hk20 hk27 hk' HR HKF HIH HKL HFF HFG HFK HCL HNL HX HO HNK HL HRN
          go_enter Tryd.func51, Tryd.ntmps51
          go_upto_region 2 with fail
          rw [HW1.out]
          go_wp2_with fail
          refine Calls.mono HI20.out ?_
          rintro e w1 ⟨rfl, hw⟩
          obtain rfl := hw.symm
          clear hw
          go_wp2_with fail
          refine Calls.mono HI27.out ?_
          rintro e w1 ⟨rfl, hw⟩
          obtain rfl := hw.symm
          clear hw
          have HNN : Hid _ := HN.out _ (Below.refl _ _)
          go_wp2_with fail
          refine Calls.mono HNN.out ?_
          rintro e wz ⟨vz, rfl, hoz, hbz⟩
          have HOZ : Hid _ := hoz
          clear hoz
          go_wp2_with fail
          go_ret
          exact ⟨_, rfl, by rw [HRZ.out]; exact HOZ.out, hbz⟩
      · have HRZ : Hid (R = NK) := HRN.out (fun e => absurd e.1 (by decide))
        clear hk20 hk' HR HKF HIH HKL HFF HFG HFK HCL HNL HX HO HNK HL HRN HI27
        go_enter Tryd.func51, Tryd.ntmps51
        go_upto_region 2 with fail
        rw [HW1.out]
        go_wp2_with fail
        refine Calls.mono HI20.out ?_
        rintro e w1 ⟨rfl, hw⟩
        obtain rfl := hw.symm
        clear hw
        have HNN : Hid _ := HN.out _ (Below.refl _ _)
        go_wp2_with fail
        refine Calls.mono HNN.out ?_
        rintro e wz ⟨vz, rfl, hoz, hbz⟩
        have HOZ : Hid _ := hoz
        clear hoz
        go_wp2_with fail
        go_ret
        exact ⟨_, rfl, by rw [HRZ.out]; exact HOZ.out, hbz⟩
      · have HRZ : Hid (R = NK) := HRN.out (fun e => absurd e.1 (by decide))
        clear hk20 hk' HR HKF HIH HKL HFF HFG HFK HCL HNL HX HO HNK HL HRN HI27
        go_enter Tryd.func51, Tryd.ntmps51
        go_upto_region 2 with fail
        rw [HW1.out]
        go_wp2_with fail
        refine Calls.mono HI20.out ?_
        rintro e w1 ⟨rfl, hw⟩
        obtain rfl := hw.symm
        clear hw
        go_wp2_with fail
        refine Calls.mono HI20.out ?_
        rintro e w1 ⟨rfl, hw⟩
        obtain rfl := hw.symm
        clear hw
        have HNN : Hid _ := HN.out _ (Below.refl _ _)
        go_wp2_with fail
        refine Calls.mono HNN.out ?_
        rintro e wz ⟨vz, rfl, hoz, hbz⟩
        have HOZ : Hid _ := hoz
        clear hoz
        go_wp2_with fail
        go_ret
        exact ⟨_, rfl, by rw [HRZ.out]; exact HOZ.out, hbz⟩
end Go.Proofs.YtfakelaibijgkaaDoor
