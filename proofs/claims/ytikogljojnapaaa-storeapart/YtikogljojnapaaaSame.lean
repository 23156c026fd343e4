/- Lists held against one another; copies. -/
import Derived.Test.YtikogljojnapaaaNew
namespace Go.Proofs.Ytikogljojnapaaa
open Go.RowKit
attribute [local go_sem] Oper.semAt_some

abbrev ndV (x : Nd) : Value := .agg #[.int .i64 x.kind, .int .i64 x.n, .int .i64 x.k, .int .i64 x.size, str x.s]
theorem ndC_one1 (x : Nd) : ∀ u ∈ ndC x, u.oneCell' = true := by
  intro u hu
  simp [ndC] at hu
  rcases hu with rfl | rfl | rfl | rfl | rfl <;> rfl
theorem ndCs_snoc (X : List Nd) (x : Nd) : ndCs (X ++ [x]) = ndCs X ++ ndC x := by simp [ndCs]
theorem Tx.one (W : World) (s : Txt) : Tx (W.alloc (.cells #[.string ⟨s.toArray⟩] 9)) (.slice (some ⟨W.heap.size, 0, none⟩) 1 1) [s] := by
  refine .inr ⟨⟨W.heap.size, 0, none⟩, 1, rfl, Nat.le_refl _, fun _ => ⟨W.heap.size, 0, rfl, by simp, fun k p hp => ?_⟩⟩
  have hc := (Cel.new W 9 #[.string ⟨s.toArray⟩]).cell k
  rw [Nat.zero_add, hc]
  cases k with
  | zero => simp at hp; subst hp; rfl
  | succ k => simp at hp
theorem Tx.two (W : World) (s t : Txt) : Tx (W.alloc (.cells #[.string ⟨s.toArray⟩, .string ⟨t.toArray⟩] 9)) (.slice (some ⟨W.heap.size, 0, none⟩) 2 2) [s, t] := by
  refine .inr ⟨⟨W.heap.size, 0, none⟩, 2, rfl, Nat.le_refl _, fun _ => ⟨W.heap.size, 0, rfl, by simp, fun k p hp => ?_⟩⟩
  have hc := (Cel.new W 9 #[.string ⟨s.toArray⟩, .string ⟨t.toArray⟩]).cell k
  rw [Nat.zero_add, hc]
  match k with
  | 0 => simp at hp; subst hp; rfl
  | 1 => simp at hp; subst hp; rfl
  | k + 2 => simp at hp
theorem list_ext_upto (us vs : List Txt) (k : Nat) (hl : us.length = vs.length) (h : ∀ j, j < k → us[j]? = vs[j]?) (hk : k = us.length) : us = vs := by
  apply List.ext_getElem?
  intro j
  by_cases hj : j < k
  · exact h j hj
  · rw [List.getElem?_eq_none (by omega), List.getElem?_eq_none (by omega)]
set_option maxRecDepth 100000 in
set_option maxHeartbeats 2000000 in
theorem sameTexts_any (va vb : Value) (us vs : List Txt) (w : World) (ha : Tx w va us) (hb : Tx w vb vs) (hla : us.length < 4294967296) (_hlb : vs.length < 4294967296) :
    Calls Try.prog 22 #[va, vb] w fun e w' => e = .returned (.bool (decide (us = vs))) ∧ Below w.heap.size w w' := by
  have HA : Hid (Tx w va us) := ha
  have HB : Hid (Tx w vb vs) := hb
  obtain ⟨ada, capa, rfl⟩ := ha.form
  obtain ⟨adb, capb, rfl⟩ := hb.form
  clear ha hb
  by_cases hl : us.length = vs.length
  · have hf : ((us.length : Int) != (vs.length : Int)) = false := by rw [hl]; simp
    have hge : vs.length ≥ us.length ∧ us.length ≥ vs.length := by omega
    have HL : Hid _ := hl
    clear hl
    go_enter Try.func22, Try.ntmps22
    go_wp2
    go_loopw [5, 6] (fun v5 _ wr => ∃ k : Nat, v5 = .int .i64 k ∧ k ≤ us.length ∧ Hid (∀ j, j < k → us[j]? = vs[j]?) ∧ Below w.heap.size w wr) (fun v5 _ _ => us.length - (intOf v5).toNat)
    case atStart => exact ⟨0, rfl, by omega, fun j hj => absurd hj (by omega), Below.refl _ _⟩
    case round =>
      obtain ⟨k, rfl, hk, hh, hb⟩ := hrel
      by_cases hlt : k < us.length
      · obtain ⟨p, hp⟩ : ∃ p, us[k]? = some p := ⟨_, List.getElem?_eq_getElem hlt⟩
        obtain ⟨q, hq⟩ : ∃ q, vs[k]? = some q := ⟨_, List.getElem?_eq_getElem (by omega)⟩
        obtain ⟨ga, oa, capa', hva, _, hga2, hcea⟩ := HA.out.inRow (fun e => by rw [e] at hlt; simp at hlt)
        obtain ⟨gb, ob, capb', hvb, _, hgb2, hceb⟩ := HB.out.inRow (fun e => by have h5 := HL.out; rw [e] at h5; simp at h5; rw [h5] at hlt; simp at hlt)
        cases hva
        cases hvb
        have q1 := (hb.cell (p := ⟨ga, oa + k, none⟩) hga2).trans (hcea k p hp)
        have q2 := (hb.cell (p := ⟨gb, ob + k, none⟩) hgb2).trans (hceb k q hq)
        clear hcea hceb
        have HP : Hid _ := hp
        have HQ : Hid _ := hq
        clear hp hq
        have hltb : k < vs.length := by omega
        by_cases hpq : p = q
        · have hbt : (p == q) = true := by simpa using hpq
          go_wp2
          go_region
          all_goals go_wp2
          refine ⟨⟨k + 1, by simp, by omega, ?_, hb.drew⟩, by simp [intOf]; omega⟩
          intro j hj
          by_cases hjk : j < k
          · exact hh.out j hjk
          · rw [show j = k by omega, HP.out, HQ.out, hpq]
        · have hbf : (p == q) = false := by simpa using hpq
          go_wp2
          go_region
          all_goals go_wp2
          go_ret
          refine ⟨ret_bool (decide_eq_false (fun e => ?_)).symm, hb.drew⟩
          have h1 := HP.out
          rw [e, HQ.out] at h1
          exact hpq (by simpa using h1.symm)
      · go_wp2
        go_ret
        refine ⟨ret_bool (decide_eq_true (list_ext_upto us vs k HL.out hh.out (by omega))).symm, hb⟩
  · have hf : ((us.length : Int) != (vs.length : Int)) = true := by simp; omega
    go_enter Try.func22, Try.ntmps22
    go_wp2
    go_ret
    exact ⟨ret_bool (decide_eq_false (fun e => hl (by rw [e]))).symm, Below.refl _ _⟩


set_option maxRecDepth 100000 in
set_option maxHeartbeats 2000000 in
theorem texts_any (v : Value) (l : List Txt) (w : World) (h : Tx w v l) (hl : l.length < 4294967296) :
    Calls Try.prog 25 #[v] w fun e w' => ∃ v', e = .returned v' ∧ w'.ownsRow w.heap.size 9 1 v' l.length (txV l) ∧ Below w.heap.size w w' := by
  obtain ⟨i0, hi0, hz0, hz1, hz2⟩ := info_parts info9
  have HT : Hid (Tx w v l) := h
  obtain ⟨ad, cap, rfl⟩ := h.form
  clear h
  go_enter Try.func25, Try.ntmps25
  go_wp2_with (at_make; refine wpList_make_own _ rfl _ _ 29 rfl w.heap.size 9 i0 (.string ⟨#[]⟩) 1 Try.underlying29 hi0 hz0 hz1 .i64 .i64 _ l.length rfl rfl rfl (by rw [hz2]; omega) (by have := maxLen_big; omega) (Nat.le_refl _) ?_; intro w0 hown0 hgrow0)
  have hb0 : Below w.heap.size w w0 := (Below.refl _ w).grown hgrow0 (Nat.le_refl _) fun q e => by cases e
  have HO0 : Hid _ := hown0
  clear hown0 hgrow0
  go_loopw [3, 4] (fun v3 v4 wr => ∃ k : Nat, v4 = .int .i64 k ∧ k ≤ l.length ∧ Hid (wr.ownsRow w.heap.size 9 1 v3 (l.take k).length (txV (l.take k))) ∧ Below w.heap.size w wr) (fun _ v4 _ => l.length - (intOf v4).toNat)
  case atStart => exact ⟨0, rfl, by omega, HO0.out, hb0⟩
  case round =>
    obtain ⟨k, rfl, hk, HO, hbr⟩ := hrel
    by_cases hkl : k < l.length
    · obtain ⟨x, hx⟩ : ∃ x, l[k]? = some x := ⟨_, List.getElem?_eq_getElem hkl⟩
      obtain ⟨g, o, cap', hv, hcc, hg, hce⟩ := HT.out.inRow (fun e => by rw [e] at hkl; simp at hkl)
      cases hv
      have c0 := (hbr.cell (p := ⟨g, o + k, none⟩) hg).trans (hce k x hx)
      have HTK : Hid (l.take (k + 1) = l.take k ++ [x]) := by unfold Hid; rw [List.take_add_one, hx]; rfl
      have HTL : Hid ((l.take k).length = k) := by unfold Hid; rw [List.length_take]; omega
      have ho := HO.out
      rw [HTL.out] at ho
      clear hce hx
      have hba : Below w.heap.size w (wr.alloc (.cells #[.string ⟨x.toArray⟩] 9)) := hbr.alloc hbr.size _
      go_wp2_with (at_builtin; refine wpList_append_own _ rfl _ _ 29 rfl w.heap.size 9 i0 (.string ⟨#[]⟩) 1 16 Try.underlying29 hi0 hz0 hz1 hz2 rfl (by decide) _ _ _ rfl (ho.alloc _) ⟨wr.heap.size, 0, none⟩ 1 1 (txV [x]) rfl rfl (Tx.cells (Tx.one wr x)) (txV_one [x]) (by have := maxLen_big; omega) (by omega) hba.size ?_; intro v' w5 hown' hgrow _)
      refine ⟨⟨k + 1, by simp, by omega, ?_, grown_own hba.size hba (ho.alloc _) hgrow⟩, by simp [intOf]; omega⟩
      have e1 := HTK.out
      unfold Hid
      rw [e1, txV_append, List.length_append, HTL.out]
      exact hown'
    · have hkz : k = l.length := by omega
      subst hkz
      rw [List.take_length] at HO
      go_wp2_with fail
      go_ret
      exact ⟨_, rfl, HO.out, hbr⟩
def sameN (x y : Nd) : Bool := x.kind == y.kind && x.n == y.n && x.k == y.k && x.size == y.size && x.s == y.s
theorem sameN_iff (x y : Nd) : sameN x y = true ↔ x = y := by
  obtain ⟨a, b, c, d, e⟩ := x
  obtain ⟨a', b', c', d', e'⟩ := y
  simp [sameN, and_assoc]
def sameNs : List Nd → List Nd → Bool
  | [], [] => true
  | x :: A, y :: B => sameN x y && sameNs A B
  | _, _ => false
theorem sameNs_iff : ∀ A B : List Nd, sameNs A B = true ↔ A = B
  | [], [] => by simp [sameNs]
  | [], _ :: _ => by simp [sameNs]
  | _ :: _, [] => by simp [sameNs]
  | x :: A, y :: B => by simp [sameNs, sameN_iff, sameNs_iff A B]
theorem sameNs_true {A B : List Nd} (h : A = B) : sameNs A B = true := (sameNs_iff A B).2 h
theorem sameNs_false {A B : List Nd} (h : ¬ A = B) : sameNs A B = false := by
  cases e : sameNs A B
  · rfl
  · exact absurd ((sameNs_iff A B).1 e) h
set_option maxHeartbeats 2000000 in
theorem sameNode_any (x y : Nd) (w : World) : Calls Try.prog 41 #[ndV x, ndV y] w fun e w' => e = .returned (.bool (sameN x y)) ∧ Below w.heap.size w w' := by
  obtain ⟨kx, nx, cx, zx, sx⟩ := x
  obtain ⟨ky, ny, cy, zy, sy⟩ := y
  obtain ⟨wa, hwa⟩ : ∃ wa, wa = (w.alloc (.cells #[.int .i64 kx, .int .i64 nx, .int .i64 cx, .int .i64 zx, str sx] 58)).alloc (.cells #[.int .i64 ky, .int .i64 ny, .int .i64 cy, .int .i64 zy, str sy] 58) := ⟨_, rfl⟩
  have hb : Below w.heap.size w wa := by rw [hwa]; exact (below_new w _).alloc (below_new w _).size _
  have C1 : Cel wa w.heap.size 58 #[.int .i64 kx, .int .i64 nx, .int .i64 cx, .int .i64 zx, str sx] := by
    rw [hwa]
    exact (Cel.new w 58 _).turn (Turn.ofBelow (S := fun _ => False) (below_new _ _)) (fun h => h)
  have C2 : Cel wa (w.heap.size + 1) 58 #[.int .i64 ky, .int .i64 ny, .int .i64 cy, .int .i64 zy, str sy] := by
    rw [hwa, show w.heap.size + 1 = (w.alloc (.cells #[.int .i64 kx, .int .i64 nx, .int .i64 cx, .int .i64 zx, str sx] 58)).heap.size by simp]
    exact Cel.new _ 58 _
  go_enter Try.func41, Try.ntmps41
  go_upto_region 1 with fail
  rw [← hwa]
  have x0 := C1.cell 0
  have x1 := C1.cell 1
  have x2 := C1.cell 2
  have x3 := C1.cell 3
  have x4 := C1.cell 4
  have y0 := C2.cell 0
  have y1 := C2.cell 1
  have y2 := C2.cell 2
  have y3 := C2.cell 3
  have y4 := C2.cell 4
  clear C1 C2 hwa
  cases h0 : (kx == ky) with
  | false =>
    go_wp2_with fail
    go_ret
    exact ⟨ret_bool (by simp only [sameN, h0, Bool.false_and]), hb⟩
  | true =>
    cases h1 : (nx == ny) with
    | false =>
      go_wp2_with fail
      go_ret
      exact ⟨ret_bool (by simp only [sameN, h0, h1, Bool.false_and, Bool.true_and]), hb⟩
    | true =>
      cases h2 : (cx == cy) with
      | false =>
        go_wp2_with fail
        go_ret
        exact ⟨ret_bool (by simp only [sameN, h0, h1, h2, Bool.false_and, Bool.true_and]), hb⟩
      | true =>
        cases h3 : (zx == zy) with
        | false =>
          go_wp2_with fail
          go_ret
          exact ⟨ret_bool (by simp only [sameN, h0, h1, h2, h3, Bool.false_and, Bool.true_and]), hb⟩
        | true =>
          cases h4 : (sx == sy) with
          | false =>
            go_wp2_with fail
            go_ret
            exact ⟨ret_bool (by simp only [sameN, h0, h1, h2, h3, h4, Bool.true_and]), hb⟩
          | true =>
            go_wp2_with fail
            go_ret
            exact ⟨ret_bool (by simp only [sameN, h0, h1, h2, h3, h4, Bool.true_and]), hb⟩
theorem nds_ext (A B : List Nd) (k : Nat) (hl : A.length = B.length) (h : ∀ j, j < k → A[j]? = B[j]?) (hk : k = A.length) : A = B := by
  apply List.ext_getElem?
  intro j
  by_cases hj : j < k
  · exact h j hj
  · rw [List.getElem?_eq_none (by omega), List.getElem?_eq_none (by omega)]

set_option maxRecDepth 100000 in
set_option maxHeartbeats 4000000 in
theorem sameNodes_any (va vb : Value) (X Z : List Nd) (w : World) (ha : NdAt w va X) (hb : NdAt w vb Z) (hlx : X.length < 140737488355328) :
    Calls Try.prog 29 #[va, vb] w fun e w' => e = .returned (.bool (sameNs X Z)) ∧ Below w.heap.size w w' := by
  have HA : Hid (∀ W', Below w.heap.size w W' → NdAt W' va X) := fun W' h => ha.below h (Nat.le_refl _)
  have HB : Hid (∀ W', Below w.heap.size w W' → NdAt W' vb Z) := fun W' h => hb.below h (Nat.le_refl _)
  obtain ⟨ada, capa, rfl⟩ := ha.form
  obtain ⟨adb, capb, rfl⟩ := hb.form
  clear ha hb
  by_cases hl : X.length = Z.length
  · have hf : ((X.length : Int) != (Z.length : Int)) = false := by rw [hl]; simp
    have HL : Hid (X.length = Z.length) := hl
    have hge : Z.length ≥ X.length ∧ X.length ≥ Z.length := by omega
    clear hl
    go_enter Try.func29, Try.ntmps29
    go_wp2_with fail
    go_loopw [5, 6] (fun v5 _ wr => ∃ k : Nat, v5 = .int .i64 k ∧ k ≤ X.length ∧ Hid (∀ j, j < k → X[j]? = Z[j]?) ∧ Below w.heap.size w wr) (fun v5 _ _ => X.length - (intOf v5).toNat)
    case atStart => exact ⟨0, rfl, by omega, fun j hj => absurd hj (by omega), Below.refl _ _⟩
    case round =>
      obtain ⟨k, rfl, hk, hh, hbr⟩ := hrel
      by_cases hlt : k < X.length
      · obtain ⟨p, hp⟩ : ∃ p, X[k]? = some p := ⟨_, List.getElem?_eq_getElem hlt⟩
        obtain ⟨q, hq⟩ : ∃ q, Z[k]? = some q := ⟨_, List.getElem?_eq_getElem (by omega)⟩
        have hbd : Below w.heap.size w wr.drew := hbr.drew
        obtain ⟨ga, oa, capa', hva, hga, x0, x1, x2, x3, x4⟩ := (HA.out _ hbd).at hp
        obtain ⟨gb, ob, capb', hvb, hgb, y0, y1, y2, y3, y4⟩ := (HB.out _ hbd).at hq
        cases hva
        cases hvb
        have HP : Hid (X[k]? = some p) := hp
        have HQ : Hid (Z[k]? = some q) := hq
        obtain ⟨kx, nx, cx, zx, sx⟩ := p
        obtain ⟨ky, ny, cy, zy, sy⟩ := q
        clear hp hq hga hgb
        have hltb : k < Z.length := by omega
        have hki : (k : Int) < (X.length : Int) ∧ (k : Int) < (Z.length : Int) := by omega
        obtain ⟨sm, HSM⟩ : ∃ sm, Hid (sameN ⟨kx, nx, cx, zx, sx⟩ ⟨ky, ny, cy, zy, sy⟩ = sm) := ⟨_, rfl⟩
        cases sm with
        | true =>
          go_wp2_with fail
          refine wp_region_any (by kernel_rfl) ?_
          try (change wpAny _ _ _ _ _ _ _ (World.drew _))
          refine wpAny_take (i := 0) (v := .slice (some ⟨ga, oa, none⟩) X.length capa) rfl (by kernel_rfl) (by kernel_rfl) (by kernel_rfl) (fun _ _ _ h => h) (Or.inl ⟨by rfl, by intro wz; go_simp⟩) ?_
          try simp only [Act.put, List.getElem_toArray, List.getElem_cons_zero, List.setIfInBounds_toArray, List.set_cons_zero, List.set_cons_succ]
          refine wpAny_take (i := 1) (v := .int .i64 (k : Int)) rfl (by kernel_rfl) (by kernel_rfl) (by kernel_rfl) (fun _ _ _ h => h) (Or.inl ⟨by rfl, by intro wz; go_simp⟩) ?_
          try simp only [Act.put, List.getElem_toArray, List.getElem_cons_succ, List.getElem_cons_zero, List.setIfInBounds_toArray, List.set_cons_zero, List.set_cons_succ]
          refine wpAny_take (i := 2) (v := .pointer (some ⟨ga, oa + k * 5, none⟩)) rfl (by kernel_rfl) (by kernel_rfl) (by kernel_rfl) (fun _ _ _ h => h) (Or.inl ⟨by rfl, by intro wz; go_simp⟩) ?_
          try simp only [Act.put, List.getElem_toArray, List.getElem_cons_succ, List.getElem_cons_zero, List.setIfInBounds_toArray, List.set_cons_zero, List.set_cons_succ]
          refine wpAny_take (i := 4) (v := .slice (some ⟨gb, ob, none⟩) Z.length capb) rfl (by kernel_rfl) (by kernel_rfl) (by kernel_rfl) (fun _ _ _ h => h) (Or.inl ⟨by rfl, by intro wz; go_simp⟩) ?_
          try simp only [Act.put, List.getElem_toArray, List.getElem_cons_succ, List.getElem_cons_zero, List.setIfInBounds_toArray, List.set_cons_zero, List.set_cons_succ]
          refine wpAny_take (i := 5) (v := .int .i64 (k : Int)) rfl (by kernel_rfl) (by kernel_rfl) (by kernel_rfl) (fun _ _ _ h => h) (Or.inl ⟨by rfl, by intro wz; go_simp⟩) ?_
          try simp only [Act.put, List.getElem_toArray, List.getElem_cons_succ, List.getElem_cons_zero, List.setIfInBounds_toArray, List.set_cons_zero, List.set_cons_succ]
          refine wpAny_take (i := 6) (v := .pointer (some ⟨gb, ob + k * 5, none⟩)) rfl (by kernel_rfl) (by kernel_rfl) (by kernel_rfl) (fun _ _ _ h => h) (Or.inl ⟨by rfl, by intro wz; go_simp⟩) ?_
          try simp only [Act.put, List.getElem_toArray, List.getElem_cons_succ, List.getElem_cons_zero, List.setIfInBounds_toArray, List.set_cons_zero, List.set_cons_succ]
          refine wpAny_ready (rs := [3, 7]) (by kernel_rfl) (by simp) ?_
          refine AllReady.cons rfl (fun K hK => ?_) ?_
          · go_simp
            refine hK _ _ ?_
            clear hK K
            try simp only [Act.put, List.getElem_toArray, List.getElem_cons_succ, List.getElem_cons_zero, List.setIfInBounds_toArray, List.set_cons_zero, List.set_cons_succ]
            refine wpAny_ready (rs := [7]) (by kernel_rfl) (by simp) ?_
            refine AllReady.cons rfl (fun K hK => ?_) ?_
            · go_simp
              refine hK _ _ ?_
              clear hK K
              try simp only [Act.put, List.getElem_toArray, List.getElem_cons_succ, List.getElem_cons_zero, List.setIfInBounds_toArray, List.set_cons_zero, List.set_cons_succ]
              refine wpAny_ready (rs := [8]) (by kernel_rfl) (by simp) ?_
              refine AllReady.cons rfl (fun K hK => ?_) ?_
              · go_simp
                refine (sameNode_any ⟨kx, nx, cx, zx, sx⟩ ⟨ky, ny, cy, zy, sy⟩ _).mono ?_
                rintro e w2 ⟨rfl, hb2'⟩
                rw [HSM.out]
                have hb2 := hbd.trans (hb2'.mono hbd.size)
                refine hK _ _ ?_
                clear hK K
                try simp only [Act.put, List.getElem_toArray, List.getElem_cons_succ, List.getElem_cons_zero, List.setIfInBounds_toArray, List.set_cons_zero, List.set_cons_succ]
                refine wpAny_ready (rs := [9]) (by kernel_rfl) (by simp) ?_
                refine AllReady.cons rfl (fun K hK => ?_) ?_
                · go_simp
                  refine hK _ _ ?_
                  clear hK K
                  try simp only [Act.put, List.getElem_toArray, List.getElem_cons_succ, List.getElem_cons_zero, List.setIfInBounds_toArray, List.set_cons_zero, List.set_cons_succ]
                  refine wpAny_done (by kernel_rfl) ?_ _
                  go_wp2_with fail
                  refine ⟨⟨k + 1, by simp, by omega, ?_, hb2⟩, by simp [intOf]; omega⟩
                  intro j hj
                  by_cases hjk : j < k
                  · exact hh.out j hjk
                  · rw [show j = k by omega, HP.out, HQ.out, (sameN_iff _ _).1 HSM.out]
                exact AllReady.nil
              exact AllReady.nil
            exact AllReady.nil
          refine AllReady.cons rfl (fun K hK => ?_) ?_
          · go_simp
            refine hK _ _ ?_
            clear hK K
            try simp only [Act.put, List.getElem_toArray, List.getElem_cons_succ, List.getElem_cons_zero, List.setIfInBounds_toArray, List.set_cons_zero, List.set_cons_succ]
            refine wpAny_ready (rs := [3]) (by kernel_rfl) (by simp) ?_
            refine AllReady.cons rfl (fun K hK => ?_) ?_
            · go_simp
              refine hK _ _ ?_
              clear hK K
              try simp only [Act.put, List.getElem_toArray, List.getElem_cons_succ, List.getElem_cons_zero, List.setIfInBounds_toArray, List.set_cons_zero, List.set_cons_succ]
              refine wpAny_ready (rs := [8]) (by kernel_rfl) (by simp) ?_
              refine AllReady.cons rfl (fun K hK => ?_) ?_
              · go_simp
                refine (sameNode_any ⟨kx, nx, cx, zx, sx⟩ ⟨ky, ny, cy, zy, sy⟩ _).mono ?_
                rintro e w2 ⟨rfl, hb2'⟩
                rw [HSM.out]
                have hb2 := hbd.trans (hb2'.mono hbd.size)
                refine hK _ _ ?_
                clear hK K
                try simp only [Act.put, List.getElem_toArray, List.getElem_cons_succ, List.getElem_cons_zero, List.setIfInBounds_toArray, List.set_cons_zero, List.set_cons_succ]
                refine wpAny_ready (rs := [9]) (by kernel_rfl) (by simp) ?_
                refine AllReady.cons rfl (fun K hK => ?_) ?_
                · go_simp
                  refine hK _ _ ?_
                  clear hK K
                  try simp only [Act.put, List.getElem_toArray, List.getElem_cons_succ, List.getElem_cons_zero, List.setIfInBounds_toArray, List.set_cons_zero, List.set_cons_succ]
                  refine wpAny_done (by kernel_rfl) ?_ _
                  go_wp2_with fail
                  refine ⟨⟨k + 1, by simp, by omega, ?_, hb2⟩, by simp [intOf]; omega⟩
                  intro j hj
                  by_cases hjk : j < k
                  · exact hh.out j hjk
                  · rw [show j = k by omega, HP.out, HQ.out, (sameN_iff _ _).1 HSM.out]
                exact AllReady.nil
              exact AllReady.nil
            exact AllReady.nil
          exact AllReady.nil
        | false =>
          go_wp2_with fail
          refine wp_region_any (by kernel_rfl) ?_
          try (change wpAny _ _ _ _ _ _ _ (World.drew _))
          refine wpAny_take (i := 0) (v := .slice (some ⟨ga, oa, none⟩) X.length capa) rfl (by kernel_rfl) (by kernel_rfl) (by kernel_rfl) (fun _ _ _ h => h) (Or.inl ⟨by rfl, by intro wz; go_simp⟩) ?_
          try simp only [Act.put, List.getElem_toArray, List.getElem_cons_zero, List.setIfInBounds_toArray, List.set_cons_zero, List.set_cons_succ]
          refine wpAny_take (i := 1) (v := .int .i64 (k : Int)) rfl (by kernel_rfl) (by kernel_rfl) (by kernel_rfl) (fun _ _ _ h => h) (Or.inl ⟨by rfl, by intro wz; go_simp⟩) ?_
          try simp only [Act.put, List.getElem_toArray, List.getElem_cons_succ, List.getElem_cons_zero, List.setIfInBounds_toArray, List.set_cons_zero, List.set_cons_succ]
          refine wpAny_take (i := 2) (v := .pointer (some ⟨ga, oa + k * 5, none⟩)) rfl (by kernel_rfl) (by kernel_rfl) (by kernel_rfl) (fun _ _ _ h => h) (Or.inl ⟨by rfl, by intro wz; go_simp⟩) ?_
          try simp only [Act.put, List.getElem_toArray, List.getElem_cons_succ, List.getElem_cons_zero, List.setIfInBounds_toArray, List.set_cons_zero, List.set_cons_succ]
          refine wpAny_take (i := 4) (v := .slice (some ⟨gb, ob, none⟩) Z.length capb) rfl (by kernel_rfl) (by kernel_rfl) (by kernel_rfl) (fun _ _ _ h => h) (Or.inl ⟨by rfl, by intro wz; go_simp⟩) ?_
          try simp only [Act.put, List.getElem_toArray, List.getElem_cons_succ, List.getElem_cons_zero, List.setIfInBounds_toArray, List.set_cons_zero, List.set_cons_succ]
          refine wpAny_take (i := 5) (v := .int .i64 (k : Int)) rfl (by kernel_rfl) (by kernel_rfl) (by kernel_rfl) (fun _ _ _ h => h) (Or.inl ⟨by rfl, by intro wz; go_simp⟩) ?_
          try simp only [Act.put, List.getElem_toArray, List.getElem_cons_succ, List.getElem_cons_zero, List.setIfInBounds_toArray, List.set_cons_zero, List.set_cons_succ]
          refine wpAny_take (i := 6) (v := .pointer (some ⟨gb, ob + k * 5, none⟩)) rfl (by kernel_rfl) (by kernel_rfl) (by kernel_rfl) (fun _ _ _ h => h) (Or.inl ⟨by rfl, by intro wz; go_simp⟩) ?_
          try simp only [Act.put, List.getElem_toArray, List.getElem_cons_succ, List.getElem_cons_zero, List.setIfInBounds_toArray, List.set_cons_zero, List.set_cons_succ]
          refine wpAny_ready (rs := [3, 7]) (by kernel_rfl) (by simp) ?_
          refine AllReady.cons rfl (fun K hK => ?_) ?_
          · go_simp
            refine hK _ _ ?_
            clear hK K
            try simp only [Act.put, List.getElem_toArray, List.getElem_cons_succ, List.getElem_cons_zero, List.setIfInBounds_toArray, List.set_cons_zero, List.set_cons_succ]
            refine wpAny_ready (rs := [7]) (by kernel_rfl) (by simp) ?_
            refine AllReady.cons rfl (fun K hK => ?_) ?_
            · go_simp
              refine hK _ _ ?_
              clear hK K
              try simp only [Act.put, List.getElem_toArray, List.getElem_cons_succ, List.getElem_cons_zero, List.setIfInBounds_toArray, List.set_cons_zero, List.set_cons_succ]
              refine wpAny_ready (rs := [8]) (by kernel_rfl) (by simp) ?_
              refine AllReady.cons rfl (fun K hK => ?_) ?_
              · go_simp
                refine (sameNode_any ⟨kx, nx, cx, zx, sx⟩ ⟨ky, ny, cy, zy, sy⟩ _).mono ?_
                rintro e w2 ⟨rfl, hb2'⟩
                rw [HSM.out]
                have hb2 := hbd.trans (hb2'.mono hbd.size)
                refine hK _ _ ?_
                clear hK K
                try simp only [Act.put, List.getElem_toArray, List.getElem_cons_succ, List.getElem_cons_zero, List.setIfInBounds_toArray, List.set_cons_zero, List.set_cons_succ]
                refine wpAny_ready (rs := [9]) (by kernel_rfl) (by simp) ?_
                refine AllReady.cons rfl (fun K hK => ?_) ?_
                · go_simp
                  refine hK _ _ ?_
                  clear hK K
                  try simp only [Act.put, List.getElem_toArray, List.getElem_cons_succ, List.getElem_cons_zero, List.setIfInBounds_toArray, List.set_cons_zero, List.set_cons_succ]
                  refine wpAny_done (by kernel_rfl) ?_ _
                  go_wp2_with fail
                  go_ret
                  refine ⟨ret_bool (sameNs_false (fun e => ?_)).symm, hb2⟩
                  have h1 := HP.out
                  rw [e, HQ.out] at h1
                  have h2 := HSM.out
                  rw [(sameN_iff _ _).2 (Option.some.inj h1).symm] at h2
                  cases h2
                exact AllReady.nil
              exact AllReady.nil
            exact AllReady.nil
          refine AllReady.cons rfl (fun K hK => ?_) ?_
          · go_simp
            refine hK _ _ ?_
            clear hK K
            try simp only [Act.put, List.getElem_toArray, List.getElem_cons_succ, List.getElem_cons_zero, List.setIfInBounds_toArray, List.set_cons_zero, List.set_cons_succ]
            refine wpAny_ready (rs := [3]) (by kernel_rfl) (by simp) ?_
            refine AllReady.cons rfl (fun K hK => ?_) ?_
            · go_simp
              refine hK _ _ ?_
              clear hK K
              try simp only [Act.put, List.getElem_toArray, List.getElem_cons_succ, List.getElem_cons_zero, List.setIfInBounds_toArray, List.set_cons_zero, List.set_cons_succ]
              refine wpAny_ready (rs := [8]) (by kernel_rfl) (by simp) ?_
              refine AllReady.cons rfl (fun K hK => ?_) ?_
              · go_simp
                refine (sameNode_any ⟨kx, nx, cx, zx, sx⟩ ⟨ky, ny, cy, zy, sy⟩ _).mono ?_
                rintro e w2 ⟨rfl, hb2'⟩
                rw [HSM.out]
                have hb2 := hbd.trans (hb2'.mono hbd.size)
                refine hK _ _ ?_
                clear hK K
                try simp only [Act.put, List.getElem_toArray, List.getElem_cons_succ, List.getElem_cons_zero, List.setIfInBounds_toArray, List.set_cons_zero, List.set_cons_succ]
                refine wpAny_ready (rs := [9]) (by kernel_rfl) (by simp) ?_
                refine AllReady.cons rfl (fun K hK => ?_) ?_
                · go_simp
                  refine hK _ _ ?_
                  clear hK K
                  try simp only [Act.put, List.getElem_toArray, List.getElem_cons_succ, List.getElem_cons_zero, List.setIfInBounds_toArray, List.set_cons_zero, List.set_cons_succ]
                  refine wpAny_done (by kernel_rfl) ?_ _
                  go_wp2_with fail
                  go_ret
                  refine ⟨ret_bool (sameNs_false (fun e => ?_)).symm, hb2⟩
                  have h1 := HP.out
                  rw [e, HQ.out] at h1
                  have h2 := HSM.out
                  rw [(sameN_iff _ _).2 (Option.some.inj h1).symm] at h2
                  cases h2
                exact AllReady.nil
              exact AllReady.nil
            exact AllReady.nil
          exact AllReady.nil
      · go_wp2_with fail
        go_ret
        refine ⟨ret_bool (sameNs_true (nds_ext _ _ k HL.out hh.out (by omega))).symm, hbr⟩
  · have hf : ((X.length : Int) != (Z.length : Int)) = true := by simp; omega
    go_enter Try.func29, Try.ntmps29
    go_wp2_with fail
    go_ret
    exact ⟨ret_bool (sameNs_false (fun e => hl (by have := congrArg List.length e; exact this))).symm, Below.refl _ _⟩
set_option maxRecDepth 100000 in
set_option maxHeartbeats 2000000 in
theorem nodes_any (v : Value) (X : List Nd) (W : World) (h : NdAt W v X) (hl : X.length < 4294967296) :
    Calls Try.prog 17 #[v] W fun e w' => ∃ v', e = .returned v' ∧ NdOwn w' W.heap.size v' X ∧ Below W.heap.size W w' := by
  obtain ⟨i0, hi0, hz0, hz1, hz2⟩ := info_parts info58
  have HH : Hid (∀ W', Below W.heap.size W W' → NdAt W' v X) := fun W' hb => h.below hb (Nat.le_refl _)
  obtain ⟨ad, cap, rfl⟩ := h.form
  clear h
  go_enter Try.func17, Try.ntmps17
  go_wp2_with (at_make; refine wpList_make_own _ rfl _ _ 38 rfl W.heap.size 58 i0 _ 5 Try.underlying38 hi0 hz0 hz1 .i64 .i64 _ X.length rfl rfl rfl (by rw [hz2]; omega) (by have := maxLen_big; omega) (Nat.le_refl _) ?_; intro w0 hown0 hgrow0)
  have hb0 : Below W.heap.size W w0 := (Below.refl _ W).grown hgrow0 (Nat.le_refl _) fun q e => by cases e
  have HO0 : Hid (NdOwn w0 W.heap.size (.slice (some ⟨W.heap.size, 0, none⟩) 0 X.length) []) := hown0
  clear hown0 hgrow0
  go_loopw [3, 4] (fun v3 v4 wr => ∃ i : Nat, v4 = .int .i64 i ∧ i ≤ X.length ∧ Hid (NdOwn wr W.heap.size v3 (X.take i)) ∧ Below W.heap.size W wr) (fun _ v4 _ => X.length - (intOf v4).toNat)
  case atStart => exact ⟨0, rfl, by omega, HO0.out, hb0⟩
  case round =>
    obtain ⟨i, rfl, hi, HO, hbr⟩ := hrel
    obtain ⟨ado, capo, rfl⟩ := owns_slice HO.out
    by_cases hlt : i < X.length
    · have hlt' : (i : Int) < (X.length : Int) := by omega
      obtain ⟨x, hx⟩ : ∃ x, X[i]? = some x := ⟨_, List.getElem?_eq_getElem hlt⟩
      obtain ⟨g, o, cap', hv, hg, c0, c1, c2, c3, c4⟩ := (HH.out _ hbr).at hx
      cases hv
      have HTK : Hid (X.take (i + 1) = X.take i ++ [x]) := by unfold Hid; rw [List.take_add_one, hx]; rfl
      have htl : (X.take i).length = i := by rw [List.length_take]; omega
      rw [htl] at HO ⊢
      have ho : wr.ownsRow W.heap.size 58 5 (.slice ado i capo) i (ndCs (X.take i)) := by have := HO.out; unfold NdOwn at this; rw [htl] at this; exact this
      have hws := hbr.size
      obtain ⟨kd, nn, K, sz, s⟩ := x
      simp only at c0 c1 c2 c3 c4
      clear hx
      go_wp2_with (at_builtin; refine wpList_append_own_at _ rfl _ _ 38 rfl W.heap.size 58 i0 _ 5 48 Try.underlying38 hi0 hz0 hz1 hz2 rfl (by decide) _ _ _ rfl (ho.alloc _) ⟨wr.heap.size, 0, none⟩ 1 1 (ndC ⟨kd, nn, K, sz, s⟩) rfl rfl (cells_new wr _ 58) (ndC_one1 _) (by have := maxLen_big; omega) (by omega) (Nat.le_trans hws (below_new _ _).size) ?_; intro v2 w2 hown2 hgrow2 _ _)
      refine ⟨⟨i + 1, by simp, by omega, ?_, grown_own (Nat.le_trans hws (below_new _ _).size) (hbr.alloc hws _) (ho.alloc _) hgrow2⟩, by simp [intOf]; omega⟩
      unfold Hid NdOwn
      rw [HTK.out, ndCs_snoc, List.length_append, htl]
      exact hown2
    · have hlt' : ¬ (i : Int) < (X.length : Int) := by omega
      have hie : i = X.length := by omega
      have HOX : Hid (NdOwn wr W.heap.size (.slice ado X.length capo) X) := by
        have := HO.out
        rw [show X.take i = X by rw [hie, List.take_length]] at this
        exact this
      go_wp2_with fail
      go_ret
      exact ⟨_, rfl, HOX.out, hbr⟩
end Go.Proofs.Ytikogljojnapaaa
