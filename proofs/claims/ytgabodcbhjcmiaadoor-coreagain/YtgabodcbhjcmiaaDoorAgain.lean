/- A program taken apart and put together again. -/
import Derived.Test.YtgabodcbhjcmiaaDoorKidsOf
namespace Go.Proofs.YtgabodcbhjcmiaaDoor
open Go.RowKit
attribute [local go_sem] Oper.semAt_some

/-- What is told of the world while a node is put together. -/
def ToldA (g o : Nat) (kind nn : Int) (s : Txt) (W : World) : Prop :=
  W.cell? ⟨g, o, none⟩ = some (.int .i64 kind) ∧ W.cell? ⟨g, o + 1, none⟩ = some (.int .i64 nn) ∧ W.cell? ⟨g, o + 4, none⟩ = some (str s)
theorem flat_le : ∀ (Ys : List (List Nd)) (Y : List Nd), Y ∈ Ys → Y.length ≤ Ys.flatten.length
  | [], _, h => by simp at h
  | Z :: Ys, Y, h => by
    rw [List.flatten_cons, List.length_append]
    rcases List.mem_cons.1 h with rfl | h
    · omega
    · have := flat_le Ys Y h
      omega
theorem segs_len (d : Nat) : ∀ (Ys : List (List Nd)), (∀ Y ∈ Ys, Seg d Y) → Ys.length ≤ Ys.flatten.length
  | [], _ => by simp
  | Y :: Ys, h => by
    obtain ⟨y, _, _, h1⟩ := (h Y (by simp)).head
    have := segs_len d Ys (fun Z hZ => h Z (by simp [hZ]))
    rw [List.flatten_cons, List.length_append, List.length_cons]
    omega
theorem map_snd_at (K : List (Value × List Nd)) (Ys : List (List Nd)) (h : K.map Prod.snd = Ys) (i : Nat) (hi : i < Ys.length) : ∃ pv, K[i]? = some (pv, Ys[i]) ∧ Ys[i]? = some Ys[i] := by
  subst h
  rw [List.length_map] at hi
  refine ⟨K[i].1, ?_, List.getElem?_eq_getElem _⟩
  rw [List.getElem?_eq_getElem hi, List.getElem_map]
set_option maxRecDepth 100000 in
set_option maxHeartbeats 4000000 in
theorem again_any : ∀ (d : Nat) (_ : d ≤ 30) (v : Value) (X : List Nd) (W : World) (_ : NdAt W v X) (_ : Seg d X) (_ : X.length < 4294967296) (_ : ∀ x ∈ X, -9223372036854775808 ≤ x.size ∧ x.k ≤ 9223372036854775807),
    Calls Tryd.prog 21 #[v, .int .i64 (d : Nat)] W fun e w' => ∃ v', e = .returned v' ∧ NdOwn w' W.heap.size v' X ∧ Below W.heap.size W w'
  | 0, _, _, _, _, _, hs, _, _ => by cases hs
  | d + 1, hd, v, X, W, hN, hs, hl, hX => by
    obtain ⟨i0, hi0, hz0, hz1, hz2⟩ := info_parts info25
    have IH : Hid (∀ (v : Value) (X : List Nd) (W : World) (_ : NdAt W v X) (_ : Seg d X) (_ : X.length < 4294967296) (_ : ∀ x ∈ X, -9223372036854775808 ≤ x.size ∧ x.k ≤ 9223372036854775807),
      Calls Tryd.prog 21 #[v, .int .i64 (d : Nat)] W fun e w' => ∃ v', e = .returned v' ∧ NdOwn w' W.heap.size v' X ∧ Below W.heap.size W w') := again_any d (by omega)
    obtain ⟨kind, nn, s, Ys, hXe, hseg⟩ : ∃ kind nn s Ys, X = newN kind nn s Ys ∧ ∀ Y ∈ Ys, Seg d Y := by
      cases hs with
      | mk d kind n s Ys h => exact ⟨kind, n, s, Ys, rfl, h⟩
    have hkl : kidsL X = Ys := by rw [hXe]; exact kidsL_seg d kind nn s Ys hseg
    have hxl : X.length = Ys.flatten.length + 1 := by rw [hXe]; simp [newN]
    have h00 : 0 < X.length := by omega
    have hYl := segs_len d Ys hseg
    have HY : Hid (∀ Y ∈ Ys, Seg d Y ∧ Y.length < 4294967296 ∧ ∀ x ∈ Y, -9223372036854775808 ≤ x.size ∧ x.k ≤ 9223372036854775807) := fun Y hY => ⟨hseg Y hY, by have := flat_le Ys Y hY; omega, fun x hx => hX x (by rw [hXe, newN]; exact List.mem_cons_of_mem _ (List.mem_flatten.2 ⟨Y, hY, hx⟩))⟩
    have HXE : Hid (X = newN kind nn s Ys) := hXe
    have HK0 : Hid (Calls Tryd.prog 14 #[v] W fun e w' => ∃ v' K, e = .returned v' ∧ KdOwn w' W.heap.size v' K ∧ K.map Prod.snd = Ys ∧ Below W.heap.size W w') := by
      have := kids_any v X W hN h00 hl hX
      rw [hkl] at this
      exact this
    obtain ⟨g, o, cap, hv, hg, c0, c1, c2, c3, c4⟩ := hN.at (j := 0) (x := ⟨kind, nn, Ys.length, Ys.flatten.length + 1, s⟩) (by rw [hXe]; rfl)
    subst hv
    simp only [Nat.zero_mul, Nat.add_zero] at c0 c1 c4
    have HT : Hid (∀ W', Below W.heap.size W W' → ToldA g o kind nn s W') := fun W' hb => ⟨(hb.cell (p := ⟨g, o, none⟩) hg).trans c0, (hb.cell (p := ⟨g, o + 1, none⟩) hg).trans c1, (hb.cell (p := ⟨g, o + 4, none⟩) hg).trans c4⟩
    obtain ⟨L, hL⟩ : ∃ L, X.length = L := ⟨_, rfl⟩
    have HF : Hid (Ys.flatten.length + 1 = L) := by unfold Hid; rw [← hL, hxl]
    rw [hL] at HK0 h00 hl ⊢
    have hYL : Ys.length < L := by rw [← hL, hxl]; omega
    clear hN hs hX hXe hseg hkl hxl hYl c0 c1 c2 c3 c4 hL hg
    have hL0 : ((L : Int) == 0) = false := by simp; omega
    have hd0 : ((d : Int) + 1 == 0) = false := by simp; omega
    go_enter Tryd.func21, Tryd.ntmps21
    go_wp2_with fail
    refine Calls.mono HK0.out ?_
    rintro e w1 ⟨v1, K1, rfl, hk1, hs1, hb1⟩
    have HK1 : Hid (∀ W', Below w1.heap.size w1 W' → KdAt W' v1 K1) := fun W' hb => hk1.at.below hb (Nat.le_refl _)
    have HS1 : Hid (K1.map Prod.snd = Ys) := hs1
    have hKl : K1.length = Ys.length := by rw [← hs1, List.length_map]
    obtain ⟨ad1, cap1, rfl⟩ := owns_slice hk1.1
    rw [hKl] at HK1 ⊢
    clear hk1 hs1 HK0 hKl
    go_wp2_with fail
    go_loopw [6, 7] (fun v6 v7 wr => ∃ (i : Nat) (K : List (Value × List Nd)), v7 = .int .i64 i ∧ i ≤ Ys.length ∧ K.length = i ∧ Hid (K.map Prod.snd = Ys.take i) ∧ Hid (KdOwn wr w1.heap.size v6 K) ∧ Below w1.heap.size w1 wr) (fun _ v7 _ => Ys.length - (intOf v7).toNat)
    case atStart => exact ⟨0, [], rfl, by omega, rfl, rfl, KdOwn.nil _ _, Below.refl _ _⟩
    case round =>
      obtain ⟨i, K, rfl, hi, hKi, HKS, HK, hbr⟩ := hrel
      subst hKi
      obtain ⟨ado, capo, rfl⟩ := owns_slice HK.out.1
      by_cases hlt : K.length < Ys.length
      · have hlt' : (K.length : Int) < (Ys.length : Int) := by omega
        obtain ⟨pv, hpv, hy⟩ := map_snd_at K1 Ys HS1.out K.length hlt
        obtain ⟨Y, hYe⟩ : ∃ Y, Ys[K.length] = Y := ⟨_, rfl⟩
        rw [hYe] at hpv hy
        obtain ⟨g1, o1, cap1', hv1, hg1, cp, hNp⟩ := (HK1.out _ hbr).at hpv
        have hv1' : Value.slice ad1 Ys.length cap1 = .slice (some ⟨g1, o1, none⟩) Ys.length cap1' := by rw [hv1, ← HS1.out, List.length_map]
        obtain ⟨rfl, rfl⟩ : ad1 = some ⟨g1, o1, none⟩ ∧ cap1 = cap1' := by
          cases hv1'
          exact ⟨rfl, rfl⟩
        have hYm := HY.out Y (List.mem_of_getElem? hy)
        have HA : Hid (Calls Tryd.prog 21 #[pv, .int .i64 (d : Nat)] wr fun e w' => ∃ v', e = .returned v' ∧ NdOwn w' wr.heap.size v' Y ∧ Below wr.heap.size wr w') := IH.out pv Y wr hNp hYm.1 hYm.2.1 hYm.2.2
        have HTK : Hid (Ys.take (K.length + 1) = Ys.take K.length ++ [Y]) := take_one hy
        obtain ⟨adp, capp, hpf⟩ := hNp.form
        simp only at hpf cp
        subst hpf
        clear hpv hy hv1 hv1' hNp hYm hYe
        go_wp2_with fail
        refine Calls.mono HA.out ?_
        rintro e w2 ⟨v2, rfl, ho2, hb2⟩
        obtain ⟨ad2, cap2, rfl⟩ := owns_slice ho2
        have HO2 : Hid (NdOwn w2 wr.heap.size (.slice ad2 Y.length cap2) Y) := ho2
        have hB : w1.heap.size ≤ wr.heap.size := hbr.size
        have HK3 : Hid (∀ o, (w2.alloc o).ownsRow w1.heap.size 25 1 (.slice ado K.length capo) K.length (K.map Prod.fst)) := fun o => (HK.out.below (hb2.alloc hb2.size o)).1
        have hB3 : w1.heap.size ≤ (w2.alloc (.cells #[.slice ad2 Y.length cap2] 25)).heap.size := Nat.le_trans hB (Nat.le_trans hb2.size (below_new _ _).size)
        clear ho2 HA cp
        go_wp2_with (at_builtin; refine wpList_append_own_at _ rfl _ _ 22 rfl w1.heap.size 25 i0 _ 1 24 Tryd.underlying22 hi0 hz0 hz1 hz2 rfl (by decide) _ _ _ rfl (HK3.out _) ⟨w2.heap.size, 0, none⟩ 1 1 [.slice ad2 Y.length cap2] rfl rfl (cells_new w2 _ 25) (slice_one _ ⟨_, _, _, rfl⟩) (by have := maxLen_big; omega) (by omega) hB3 ?_; intro v4 w4 hown4 hgrow4 _ _)
        have hfin := KdOwn.snoc HK.out hb2 hB hB HO2.out hown4 hgrow4
        refine ⟨⟨K.length + 1, K ++ [(Value.slice ad2 Y.length cap2, Y)], by simp, by omega, by simp, ?_, hfin.1, hbr.trans hfin.2⟩, by simp [intOf]; omega⟩
        unfold Hid
        rw [List.map_append, HKS.out, HTK.out]
        rfl
      · have hie : K.length = Ys.length := by omega
        have hKS : K.map Prod.snd = Ys := by rw [HKS.out, hie, List.take_length]
        have hbw := hb1.trans (hbr.mono hb1.size)
        have HNW : Hid (∀ W', Below wr.heap.size wr W' → Calls Tryd.prog 11 #[.int .i64 kind, .int .i64 nn, str s, .slice ado K.length capo] W' fun e w' => ∃ v', e = .returned v' ∧ NdOwn w' W'.heap.size v' X ∧ Below W'.heap.size W' w') := fun W' hb => by
          have hkid : (kidL K).length < 4294967296 := by unfold kidL; rw [hKS]; have := HF.out; omega
          have := new_own kind nn s _ K W' (HK.out.at.below hb (Nat.le_refl _)) (by omega) hkid
          rw [hKS, ← HXE.out] at this
          exact this
        rw [hie] at HNW
        clear hKS HK HKS
        have hlt' : ¬ (K.length : Int) < (Ys.length : Int) := by omega
        go_wp2_with fail
        refine wp_region_held (S := ToldA g o kind nn s) (by kernel_rfl) ?_
        change wpAnyH _ _ _ _ _ _ _ _ (World.drew _)
        have hbd : Below W.heap.size W (World.drew wr) := ⟨hbw.os, hbw.tape, hbw.output, hbw.size, hbw.block⟩
        have hS0 : ToldA g o kind nn s (World.drew wr) := HT.out _ hbd
        refine wpAnyH_take (i := 0) (v := .slice (some ⟨g, o, none⟩) L cap) rfl (by kernel_rfl) (by kernel_rfl) (by kernel_rfl) (fun _ _ _ h => h) (Yields.yieldsIf (Or.inl ⟨by rfl, by intro wz; go_simp⟩)) hS0 ?_
        try simp only [Act.put, List.getElem_toArray, List.getElem_cons_zero, List.setIfInBounds_toArray, List.set_cons_zero, List.set_cons_succ]
        refine wpAnyH_take (i := 1) (v := .pointer (some ⟨g, o, none⟩)) rfl (by kernel_rfl) (by kernel_rfl) (by kernel_rfl) (fun _ _ _ h => h) (Yields.yieldsIf (Or.inl ⟨by rfl, by intro wz; go_simp⟩)) hS0 ?_
        try simp only [Act.put, List.getElem_toArray, List.getElem_cons_succ, List.getElem_cons_zero, List.setIfInBounds_toArray, List.set_cons_zero, List.set_cons_succ]
        refine wpAnyH_take (i := 2) (v := .pointer (some ⟨g, o, none⟩)) rfl (by kernel_rfl) (by kernel_rfl) (by kernel_rfl) (fun _ _ _ h => h) (Yields.yieldsIf (Or.inl ⟨by rfl, by intro wz; go_simp⟩)) hS0 ?_
        try simp only [Act.put, List.getElem_toArray, List.getElem_cons_succ, List.getElem_cons_zero, List.setIfInBounds_toArray, List.set_cons_zero, List.set_cons_succ]
        refine wpAnyH_take (i := 3) (v := .int .i64 kind) rfl (by kernel_rfl) (by kernel_rfl) (by kernel_rfl) (fun _ _ _ h => h) (Or.inl ⟨by rfl, fun wz hS => by obtain ⟨s1, s2, s3⟩ := hS; go_simp⟩) hS0 ?_
        try simp only [Act.put, List.getElem_toArray, List.getElem_cons_succ, List.getElem_cons_zero, List.setIfInBounds_toArray, List.set_cons_zero, List.set_cons_succ]
        refine wpAnyH_take (i := 4) (v := .slice (some ⟨g, o, none⟩) L cap) rfl (by kernel_rfl) (by kernel_rfl) (by kernel_rfl) (fun _ _ _ h => h) (Yields.yieldsIf (Or.inl ⟨by rfl, by intro wz; go_simp⟩)) hS0 ?_
        try simp only [Act.put, List.getElem_toArray, List.getElem_cons_succ, List.getElem_cons_zero, List.setIfInBounds_toArray, List.set_cons_zero, List.set_cons_succ]
        refine wpAnyH_take (i := 5) (v := .pointer (some ⟨g, o, none⟩)) rfl (by kernel_rfl) (by kernel_rfl) (by kernel_rfl) (fun _ _ _ h => h) (Yields.yieldsIf (Or.inl ⟨by rfl, by intro wz; go_simp⟩)) hS0 ?_
        try simp only [Act.put, List.getElem_toArray, List.getElem_cons_succ, List.getElem_cons_zero, List.setIfInBounds_toArray, List.set_cons_zero, List.set_cons_succ]
        refine wpAnyH_take (i := 6) (v := .pointer (some ⟨g, o + 1, none⟩)) rfl (by kernel_rfl) (by kernel_rfl) (by kernel_rfl) (fun _ _ _ h => h) (Yields.yieldsIf (Or.inl ⟨by rfl, by intro wz; go_simp⟩)) hS0 ?_
        try simp only [Act.put, List.getElem_toArray, List.getElem_cons_succ, List.getElem_cons_zero, List.setIfInBounds_toArray, List.set_cons_zero, List.set_cons_succ]
        refine wpAnyH_take (i := 7) (v := .int .i64 nn) rfl (by kernel_rfl) (by kernel_rfl) (by kernel_rfl) (fun _ _ _ h => h) (Or.inl ⟨by rfl, fun wz hS => by obtain ⟨s1, s2, s3⟩ := hS; go_simp⟩) hS0 ?_
        try simp only [Act.put, List.getElem_toArray, List.getElem_cons_succ, List.getElem_cons_zero, List.setIfInBounds_toArray, List.set_cons_zero, List.set_cons_succ]
        refine wpAnyH_take (i := 8) (v := .slice (some ⟨g, o, none⟩) L cap) rfl (by kernel_rfl) (by kernel_rfl) (by kernel_rfl) (fun _ _ _ h => h) (Yields.yieldsIf (Or.inl ⟨by rfl, by intro wz; go_simp⟩)) hS0 ?_
        try simp only [Act.put, List.getElem_toArray, List.getElem_cons_succ, List.getElem_cons_zero, List.setIfInBounds_toArray, List.set_cons_zero, List.set_cons_succ]
        refine wpAnyH_take (i := 9) (v := .pointer (some ⟨g, o, none⟩)) rfl (by kernel_rfl) (by kernel_rfl) (by kernel_rfl) (fun _ _ _ h => h) (Yields.yieldsIf (Or.inl ⟨by rfl, by intro wz; go_simp⟩)) hS0 ?_
        try simp only [Act.put, List.getElem_toArray, List.getElem_cons_succ, List.getElem_cons_zero, List.setIfInBounds_toArray, List.set_cons_zero, List.set_cons_succ]
        refine wpAnyH_take (i := 10) (v := .pointer (some ⟨g, o + 4, none⟩)) rfl (by kernel_rfl) (by kernel_rfl) (by kernel_rfl) (fun _ _ _ h => h) (Yields.yieldsIf (Or.inl ⟨by rfl, by intro wz; go_simp⟩)) hS0 ?_
        try simp only [Act.put, List.getElem_toArray, List.getElem_cons_succ, List.getElem_cons_zero, List.setIfInBounds_toArray, List.set_cons_zero, List.set_cons_succ]
        refine wpAnyH_take (i := 11) (v := str s) rfl (by kernel_rfl) (by kernel_rfl) (by kernel_rfl) (fun _ _ _ h => h) (Or.inl ⟨by rfl, fun wz hS => by obtain ⟨s1, s2, s3⟩ := hS; go_simp⟩) hS0 ?_
        try simp only [Act.put, List.getElem_toArray, List.getElem_cons_succ, List.getElem_cons_zero, List.setIfInBounds_toArray, List.set_cons_zero, List.set_cons_succ]
        refine wpAnyH_take (i := 12) (v := .slice ado Ys.length capo) rfl (by kernel_rfl) (by kernel_rfl) (by kernel_rfl) (fun _ _ _ h => h) (Yields.yieldsIf (Or.inl ⟨by rfl, by intro wz; go_simp⟩)) hS0 ?_
        try simp only [Act.put, List.getElem_toArray, List.getElem_cons_succ, List.getElem_cons_zero, List.setIfInBounds_toArray, List.set_cons_zero, List.set_cons_succ]
        refine wpAnyH_ready (rs := [13]) (by kernel_rfl) (by simp) ?_
        refine AllReadyH.cons rfl (fun K' hK => ?_) AllReadyH.nil
        go_simp
        refine Calls.mono (HNW.out _ ⟨rfl, rfl, rfl, Nat.le_refl _, fun _ _ => rfl⟩) ?_
        rintro e w5 ⟨v5, rfl, ho5, hb5⟩
        have hbw5 : Below W.heap.size W w5 := hbd.trans (hb5.mono hbd.size)
        have HO5 : Hid (NdOwn w5 W.heap.size v5 X) := owns_lower ho5 hbd.size
        obtain ⟨ad5, cap5, rfl⟩ := owns_slice ho5
        refine hK.out _ _ (HT.out _ hbw5) (fun hS5 => ?_)
        clear hK K' ho5 hb5 hS0
        try simp only [Act.put, List.getElem_toArray, List.getElem_cons_succ, List.getElem_cons_zero, List.setIfInBounds_toArray, List.set_cons_zero, List.set_cons_succ]
        refine wpAnyH_ready (rs := [14]) (by kernel_rfl) (by simp) ?_
        refine AllReadyH.cons rfl (fun K' hK => ?_) AllReadyH.nil
        go_simp
        refine hK.out _ _ hS5 (fun _ => ?_)
        clear hK K'
        refine wpAnyH_done (by kernel_rfl) ?_ _
        go_wp2_with fail
        go_ret
        exact ⟨_, rfl, HO5.out, hbw5⟩
end Go.Proofs.YtgabodcbhjcmiaaDoor
