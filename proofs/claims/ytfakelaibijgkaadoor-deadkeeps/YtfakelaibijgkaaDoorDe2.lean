/- Commands one behind the other: opened, and without what does nothing. -/
import Derived.Test.YtfakelaibijgkaaDoorDe1
namespace Go.Proofs.YtfakelaibijgkaaDoor
open Go.RowKit
attribute [local go_sem] Oper.semAt_some

/-! ### plain -/
theorem lastNop_eq : ∀ (l : List (List Nd)) (h : l ≠ []), lastNop l = (l.dropLast.filter fun Y => kindOf Y != 20) ++ [l.getLast h]
  | [], h => absurd rfl h
  | [Y], _ => rfl
  | Y :: Z :: r, _ => by
    rw [lastNop, lastNop_eq (Z :: r) (by simp), List.dropLast_cons_cons, List.getLast_cons_cons]
    by_cases hk : kindOf Y = 20
    · rw [if_pos hk, List.filter_cons_of_neg (by simp [hk])]
    · rw [if_neg hk, List.filter_cons_of_pos (by simp [hk])]
      rfl
theorem flat_mem : ∀ (Ys : List (List Nd)) (Y : List Nd), Y ∈ Ys → Y.length ≤ Ys.flatten.length
  | [], _, h => by simp at h
  | Z :: Ys, Y, h => by
    rw [List.flatten_cons, List.length_append]
    rcases List.mem_cons.1 h with rfl | h
    · omega
    · have := flat_mem Ys Y h
      omega
theorem Fits.pos {d : Nat} {word : Bool} {Y : List Nd} (h : Fits d word Y) : 1 ≤ Y.length := h.head.choose_spec.2.2
theorem Fits.bound {d : Nat} {word : Bool} {Y : List Nd} (h : Fits d word Y) : ∀ x ∈ Y, 0 ≤ x.size ∧ x.size ≤ Y.length ∧ 0 ≤ x.k ∧ x.k ≤ Y.length := by
  induction h with
  | mk d word kind n s Ys h1 h2 h3 h4 h ih =>
    have hp : ∀ Y ∈ Ys, 1 ≤ Y.length := fun Y hY => by
      obtain ⟨j, hj⟩ := List.mem_iff_getElem?.1 hY
      exact (h j Y hj).pos
    have hg := flat_ge Ys hp
    intro x hx
    have hl : (newN kind n s Ys).length = Ys.flatten.length + 1 := by simp [newN]
    rw [hl]
    rcases List.mem_cons.1 hx with rfl | hx
    · simp only
      omega
    · obtain ⟨Y, hY, hxY⟩ := List.mem_flatten.1 hx
      obtain ⟨j, hj⟩ := List.mem_iff_getElem?.1 hY
      have := ih j Y hj x hxY
      have := flat_mem Ys Y hY
      omega
theorem openK_flat {d : Nat} : ∀ (Ys : List (List Nd)), (∀ Y ∈ Ys, Fits d false Y) → (openK Ys).flatten.length ≤ Ys.flatten.length
  | [], _ => Nat.le_refl _
  | Y :: r, h => by
    have ih := openK_flat r (fun Z hZ => h Z (by simp [hZ]))
    unfold openK at ih ⊢
    rw [List.flatMap_cons, List.flatten_append, List.length_append, List.flatten_cons, List.length_append]
    split
    · obtain ⟨e, n, s, Zs, rfl, hY, hq, _⟩ := (h Y (by simp)).out
      have : Y.length = Zs.flatten.length + 1 := by
        have := congrArg List.length hY
        simpa [newN] using this
      rw [hq]
      omega
    · simp only [List.flatten_cons, List.flatten_nil, List.append_nil]
      omega
theorem openK_len {d : Nat} (Ys : List (List Nd)) (h : ∀ Y ∈ Ys, Fits d false Y) : (openK Ys).length ≤ Ys.flatten.length := by
  have h1 := flat_ge (openK Ys) (fun Z hZ => (openK_fits h Z hZ).pos)
  have := openK_flat Ys h
  omega
theorem openK_snoc (Ys : List (List Nd)) (Y : List Nd) : openK (Ys ++ [Y]) = openK Ys ++ (if kindOf Y = 23 then kidsL Y else [Y]) := by
  unfold openK
  rw [List.flatMap_append]
  simp
theorem flat_take (Ys : List (List Nd)) (i : Nat) : (Ys.take i).flatten.length ≤ Ys.flatten.length := by
  conv => rhs; rw [← List.take_append_drop i Ys]
  rw [List.flatten_append, List.length_append]
  omega

/-! ### lists of lists of one's own, grown -/
theorem KdAt.cells {W : World} {g o n cap : Nat} {K : List (Value × List Nd)} (h : KdAt W (.slice (some ⟨g, o, none⟩) n cap) K) : ∀ j u, (K.map Prod.fst)[j]? = some u → W.cell? ((⟨g, o, none⟩ : Addr).add j) = some u := by
  intro j u hu
  rw [List.getElem?_map] at hu
  obtain ⟨q, hq, rfl⟩ := Option.map_eq_some_iff.1 hu
  obtain ⟨g', o', cp, hv, _, hc, _⟩ := h.at hq
  injection hv with e1 _ _
  cases e1
  rw [Addr.add_lit]
  exact hc
theorem KdAt.ones {W : World} {v : Value} {K : List (Value × List Nd)} (h : KdAt W v K) : ∀ u ∈ K.map Prod.fst, u.oneCell' = true := by
  intro u hu
  obtain ⟨q, hq, rfl⟩ := List.mem_map.1 hu
  obtain ⟨ad, cap, e⟩ := (h.2 q hq).form
  rw [e]
  rfl
theorem NdOwn.grownK {W w4 : World} {B M n : Nat} {v pv : Value} {xs : List Value} {X : List Nd} (h : NdOwn W B pv X) (hr : W.ownsRow M 22 1 v n xs) (hg : W.grownBy w4 v.ownBlock) : NdOwn w4 B pv X :=
  owns_turn h (Turn.ofGrown hg) (fun b hb e => owns_apart2 hr h (by decide) b e hb)
theorem grown_below {W w4 : World} {M n : Nat} {v : Value} {xs : List Value} (hr : W.ownsRow M 22 1 v n xs) (hM : M ≤ W.heap.size) (hg : W.grownBy w4 v.ownBlock) : Below M W w4 :=
  (Below.refl M W).grown hg hM (fun b hb => (hr.lt b hb).1)
theorem kids_fit {d : Nat} {word : Bool} {v : Value} {X : List Nd} {W : World} (h : NdAt W v X) (hF : Fits d word X) (hl : X.length ≤ 3000) :
    Calls Tryd.prog 32 #[v] W fun e w' => ∃ v' K, e = .returned v' ∧ KdOwn w' W.heap.size v' K ∧ K.map Prod.snd = kidsL X ∧ Below W.heap.size W w' :=
  kids_any v X W h hF.pos (by omega) (fun x hx => by have := hF.bound x hx; omega)
set_option maxRecDepth 100000 in
set_option maxHeartbeats 4000000 in
theorem opened_any {d B : Nat} {v : Value} {K : List (Value × List Nd)} {W : World} (h : KdOwn W B v K) (hB : B ≤ W.heap.size) (hF : ∀ q ∈ K, Fits d false q.2) (hl : (kidL K).length ≤ 3000) :
    Calls Tryd.prog 62 #[v] W fun e w' => ∃ v' K', e = .returned v' ∧ KdOwn w' B v' K' ∧ K'.map Prod.snd = openK (K.map Prod.snd) ∧ Below W.heap.size W w' := by
  obtain ⟨i0, hi0, hz0, hz1, hz2⟩ := info_parts info25
  have HK : Hid (∀ w, Below W.heap.size W w → KdOwn w B v K) := fun w hb => h.below hb
  have hFs : ∀ Y ∈ K.map Prod.snd, Fits d false Y := fun Y hY => by
    obtain ⟨q, hq, rfl⟩ := List.mem_map.1 hY
    exact hF q hq
  have HLT : Hid (∀ i, (openK ((K.map Prod.snd).take i)).length ≤ 3000) := fun i => by
    have h1 := openK_len ((K.map Prod.snd).take i) (fun Y hY => hFs Y (List.mem_of_mem_take hY))
    have h2 := flat_take (K.map Prod.snd) i
    unfold kidL at hl
    omega
  have HF : Hid (∀ q ∈ K, Fits d false q.2 ∧ q.2.length ≤ 3000) := fun q hq => ⟨hF q hq, by
    have := flat_mem (K.map Prod.snd) q.2 (List.mem_map_of_mem hq)
    unfold kidL at hl
    omega⟩
  obtain ⟨ad, cap, rfl⟩ := h.at.form
  have hKl : K.length ≤ 3000 := by
    have h1 := flat_ge (K.map Prod.snd) (fun Y hY => (hFs Y hY).pos)
    rw [List.length_map] at h1
    unfold kidL at hl
    omega
  clear h hF hl hFs
  go_enter Tryd.func62, Tryd.ntmps62
  go_wp2_with fail
  go_loopw [3, 8] (fun v3 v8 wr => ∃ (i : Nat) (K' : List (Value × List Nd)), v8 = .int .i64 i ∧ i ≤ K.length ∧ Hid (K'.map Prod.snd = openK ((K.map Prod.snd).take i)) ∧ Hid (wr.ownsRow W.heap.size 22 1 v3 K'.length (K'.map Prod.fst)) ∧ Hid (∀ q ∈ K', NdOwn wr B q.1 q.2) ∧ Hid (Below W.heap.size W wr)) (fun _ v8 _ => K.length - (intOf v8).toNat)
  case atStart => exact ⟨0, [], rfl, by omega, by simp [Hid, openK], World.ownsRow_nil _ _ _ _, (fun q hq => by cases hq), Below.refl _ _⟩
  case round =>
    obtain ⟨i, K', rfl, hi, HS, HR, HO, HB⟩ := hrel
    obtain ⟨ado, capo, rfl⟩ := owns_slice HR.out
    have hKl' : K'.length ≤ 3000 := by
      have h1 := congrArg List.length HS.out
      have h2 := HLT.out i
      rw [List.length_map] at h1
      omega
    have hws := HB.out.size
    by_cases hlt : i < K.length
    · have hlt' : (i : Int) < (K.length : Int) := by omega
      obtain ⟨q, hq⟩ : ∃ q, K[i]? = some q := ⟨_, List.getElem?_eq_getElem hlt⟩
      have hKd := HK.out _ HB.out
      obtain ⟨g, o, cp, hv, hg, c0, hN⟩ := hKd.at.at hq
      injection hv with e1 _ e3
      subst e1
      subst e3
      have hm := List.mem_of_getElem? hq
      obtain ⟨hfq, hlq⟩ := HF.out q hm
      have hQ := hKd.2 q hm
      have HT : Hid ((K.map Prod.snd).take (i + 1) = (K.map Prod.snd).take i ++ [q.2]) := take_one (by rw [List.getElem?_map, hq]; rfl)
      obtain ⟨qv, Y⟩ := q
      simp only at c0 hN hfq hlq hQ HT
      obtain ⟨adp, capp, rfl⟩ := hN.form
      have HIs : Hid _ := is_any _ Y wr 23 hN hfq.pos
      have HQ : Hid (NdOwn wr B (.slice adp Y.length capp) Y) := hQ
      have HKd : Hid _ := kids_fit hN hfq hlq
      have HOut : Hid (kindOf Y = 23 → ∃ Y0 r, kidsL Y = Y0 :: r) := fun hk => by
        obtain ⟨e, n, s, Zs, _, _, hq, _, _, _, hc, _⟩ := hfq.out
        rw [hk] at hc
        rw [hq]
        cases Zs with
        | nil => simp [cntB] at hc
        | cons a b => exact ⟨a, b, rfl⟩
      have HKL : Hid ((openK ((K.map Prod.snd).take (i + 1))).length ≤ 3000) := HLT.out (i + 1)
      clear hq hKd hm hQ hN hlq hfq
      cases hk : (kindOf Y == 23) with
      | false =>
        rw [hk] at HIs
        have HK23 : Hid (¬ kindOf Y = 23) := fun e => by simp [e] at hk
        clear hk HKd HOut HKL
        go_wp2_with fail
        refine Calls.mono HIs.out ?_
        rintro e w1 ⟨rfl, hw⟩
        obtain rfl := hw.symm
        go_wp2_with (at_builtin; refine wpList_append_own_at _ rfl _ _ 36 rfl W.heap.size 22 i0 _ 1 24 Tryd.underlying36 hi0 hz0 hz1 hz2 rfl (by decide) _ K'.length _ rfl (World.ownsRow.alloc HR.out _) ⟨wr.heap.size, 0, none⟩ 1 1 [.slice adp Y.length capp] rfl rfl (cells_new wr _ 22) (slice_one _ ⟨_, _, _, rfl⟩) (by have := maxLen_big; omega) (by omega) (by simp; omega) ?_; intro v4 w4 hown4 hgrow4 _ _)
        have hrA := World.ownsRow.alloc HR.out (.cells [Value.slice adp Y.length capp].toArray 22)
        have hbA : Below wr.heap.size wr (wr.alloc (.cells [Value.slice adp Y.length capp].toArray 22)) := below_new _ _
        refine ⟨⟨i + 1, K' ++ [(.slice adp Y.length capp, Y)], by simp, by omega, ?_, by rw [List.length_append, List.map_append]; exact hown4, fun q hq => ?_, ?_⟩, by simp [intOf]; omega⟩
        · unfold Hid
          rw [HT.out, openK_snoc, if_neg HK23.out, List.map_append, HS.out]
          rfl
        · rcases List.mem_append.1 hq with hq | hq
          · exact ((HO.out q hq).below hbA).grownK hrA hgrow4
          · rw [List.mem_singleton] at hq
            subst hq
            exact (HQ.out.below hbA).grownK hrA hgrow4
        · exact HB.out.trans ((hbA.mono hws).trans (grown_below hrA (by simp; omega) hgrow4))
      | true =>
        rw [hk] at HIs
        have HK23 : Hid (kindOf Y = 23) := by simpa [Hid] using hk
        clear hk
        go_wp2_with fail
        refine Calls.mono HIs.out ?_
        rintro e w1 ⟨rfl, hw⟩
        obtain rfl := hw.symm
        go_wp2_with fail
        refine Calls.mono HKd.out ?_
        rintro e w2 ⟨v2, K2, rfl, hk2, hs2, hb2⟩
        have HK2 : Hid (KdOwn w2 wr.heap.size v2 K2) := hk2
        have HS2 : Hid (K2.map Prod.snd = kidsL Y) := hs2
        have hlen2 : K'.length + K2.length ≤ 3000 := by
          have h0 := HKL.out
          rw [HT.out, openK_snoc, if_pos HK23.out, ← hs2, List.length_append, ← HS.out, List.length_map, List.length_map] at h0
          exact h0
        obtain ⟨Y0, r0, hY0⟩ := HOut.out HK23.out
        obtain ⟨q0, hq0⟩ : ∃ q0, K2[0]? = some q0 := by
          rw [hY0] at hs2
          cases K2 with
          | nil => cases hs2
          | cons a b => exact ⟨a, rfl⟩
        obtain ⟨g2, o2, cp2, rfl, _, _, _⟩ := hk2.at.at hq0
        have HRA : Hid (w2.ownsRow W.heap.size 22 1 (.slice ado K'.length capo) K'.length (K'.map Prod.fst)) := owns_turn HR.out (Turn.ofBelow (S := fun _ => False) hb2) (fun _ _ h => h)
        have hcs := hk2.at.cells
        have hon := hk2.at.ones
        have HB2 : Hid (Below wr.heap.size wr w2) := hb2
        have hz2' : wr.heap.size ≤ w2.heap.size := hb2.size
        clear hq0 hY0 hk2 hs2 hb2 HOut HKL
        go_wp2_with (at_builtin; refine wpList_append_own_at _ rfl _ _ 36 rfl W.heap.size 22 i0 _ 1 24 Tryd.underlying36 hi0 hz0 hz1 hz2 rfl (by decide) _ K'.length _ rfl HRA.out ⟨g2, o2, none⟩ K2.length cp2 (K2.map Prod.fst) rfl (by simp) hcs hon (by have := maxLen_big; omega) (by omega) (by omega) ?_; intro v4 w4 hown4 hgrow4 _ _)
        refine ⟨⟨i + 1, K' ++ K2, by simp, by omega, ?_, by rw [List.length_append, List.map_append]; exact hown4, fun q hq => ?_, ?_⟩, by simp [intOf]; omega⟩
        · unfold Hid
          rw [HT.out, openK_snoc, if_pos HK23.out, List.map_append, HS.out, HS2.out]
        · rcases List.mem_append.1 hq with hq | hq
          · exact ((HO.out q hq).below HB2.out).grownK HRA.out hgrow4
          · exact NdOwn.grownK (owns_lower (HK2.out.2 q hq) (by omega)) HRA.out hgrow4
        · exact HB.out.trans ((HB2.out.mono hws).trans (grown_below HRA.out (by omega) hgrow4))
    · have hlt' : ¬ (i : Int) < (K.length : Int) := by omega
      have HE : Hid (K'.map Prod.snd = openK (K.map Prod.snd)) := by
        have := HS.out
        rw [List.take_of_length_le (by rw [List.length_map]; omega)] at this
        exact this
      go_wp2_with fail
      go_ret
      exact ⟨_, rfl, K', ⟨owns_lower HR.out hB, HO.out⟩, HE.out, HB.out⟩
end Go.Proofs.YtfakelaibijgkaaDoor
