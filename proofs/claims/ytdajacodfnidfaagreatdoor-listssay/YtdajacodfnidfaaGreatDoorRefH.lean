/- The document's own answers: Match. -/
import Derived.Test.YtdajacodfnidfaaGreatDoorRefG
namespace Go.Proofs.YtdajacodfnidfaaGreatDoor
open Go.RowKit Go.Shelf

theorem Cel.bool {W : World} {b n : Nat} {f : Nat → Bool} (h : Cel W b 4 (bcs n f)) (k : Nat) (hk : k ≤ n) : W.cell? ⟨b, k, none⟩ = some (.bool (f k)) := (h.cell k).trans (bcs_get n f k hk)
theorem closes_none (L : List Lt) (i : Nat) (h : ¬ i + 1 < lastOf L) : closesL L i = -1 := by
  have h1 : ¬ 0 ≤ closesL L i := fun h2 => h ((closes_ge L i).1 h2)
  unfold closesL at h1 ⊢
  split
  · rename_i k e; rw [e] at h1; simp only at h1; omega
  · rfl
theorem lt_tail {W : World} {g o : Nat} {M : List Lt} (h : LtAt W g o (dd M)) : LtAt W g (o + 2) (dd M.tail) := by
  intro k z hz
  have h1 := h (k + 1) z (by unfold dd at hz ⊢; rw [List.getElem?_map] at hz ⊢; rw [List.getElem?_tail] at hz; exact hz)
  rw [show o + (k + 1) * 2 = o + 2 + k * 2 by omega] at h1
  exact h1
theorem Cel.to {W : World} {b : Nat} {t : TypeId} {cs cs' : Array Value} (h : Cel W b t cs) (e : cs = cs') : Cel W b t cs' := e ▸ h
theorem row_set (n k : Nat) (T : Nat → Bool) (v : Bool) (h : T (k + 1) = v) : (bcs n (fun j => if j ≤ k then T j else false)).setIfInBounds (k + 1) (.bool v) = bcs n (fun j => if j ≤ k + 1 then T j else false) := by
  rw [bcs_set]
  refine bcs_congr _ _ _ fun j _ => ?_
  by_cases e : j = k + 1
  · subst e; simp [h]
  · by_cases e2 : j ≤ k
    · simp [e, e2, show j ≤ k + 1 by omega]
    · simp [e, e2, show ¬ j ≤ k + 1 by omega]
theorem row_off (n k : Nat) (T : Nat → Bool) (h : T (k + 1) = false) : bcs n (fun j => if j ≤ k then T j else false) = bcs n (fun j => if j ≤ k + 1 then T j else false) := by
  refine bcs_congr _ _ _ fun j _ => ?_
  by_cases e : j = k + 1
  · subst e; simp [h]
  · by_cases e2 : j ≤ k
    · simp [e2, show j ≤ k + 1 by omega]
    · simp [e2, show ¬ j ≤ k + 1 by omega]
theorem row_all (n : Nat) (T : Nat → Bool) : bcs n (fun j => if j ≤ n then T j else false) = bcs n T := bcs_congr _ _ _ fun j hj => by simp [hj]
theorem row_none (n : Nat) (T : Nat → Bool) (h : T 0 = false) : bcs n (fun _ => false) = bcs n (fun j => if j ≤ 0 then T j else false) := bcs_congr _ _ _ fun j _ => by
  by_cases e : j = 0
  · subst e; simp [h]
  · simp [e]

set_option maxRecDepth 100000 in
set_option maxHeartbeats 4000000 in
theorem rmatch_any (p s : ByteArray) (hp : p.size < 4294967296) (hs : s.size < 4294967296) (w : World) :
    Calls Tryz.prog 75 #[.string p, .string s] w fun e w' => e = .returned (.bool (matchL p.data.toList s.data.toList)) ∧ Below w.heap.size w w' := by
  obtain ⟨L, hL⟩ : ∃ L, letts p.data.toList = L := ⟨_, rfl⟩
  have hLs : L.length < 4294967296 := by rw [← hL]; exact Nat.lt_of_le_of_lt (letts_length_le _) (by simpa using hp)
  have HL : Hid _ := hL
  unfold matchL
  rw [hL]
  clear hL
  obtain ⟨A, hA⟩ : ∃ A, mt (pcs L) s.data.toList = A := ⟨_, rfl⟩
  have HA : Hid _ := hA
  rw [hA]
  clear hA
  go_enter Tryz.func75, Tryz.ntmps75
  go_wp2_with fail
  refine (rread_any p hp w).mono ?_
  rintro e w1 ⟨v, rfl, ho1, hb1⟩
  rw [HL.out] at ho1
  rw [← dd_length L] at ho1
  obtain ⟨g, ad, cap, rfl, hne, hlt⟩ := lt_owned ho1
  rw [dd_length] at hne ⊢
  clear ho1
  have hmk := make_row s.size hs
  have c0 := Cel.new w1 4 (bcs s.size (fun _ => false))
  have c1 := c0.bool 0 (by omega)
  have c2 := c0.frozen 0
  have e0 : (bcs s.size (fun _ => false)).setIfInBounds 0 (.bool true) = bcs s.size (fun k => mt [] (s.data.toList.take k)) := by
    rw [bcs_set]
    refine bcs_congr _ _ _ fun k hk => ?_
    rw [dp_nil _ _ (by simpa using hk)]
    by_cases e : k = 0
    · subst e; rfl
    · simp [e]
  have E0 : Hid _ := e0
  clear e0
  go_wp2_with fail
  rw [E0.out]
  clear c0 c1 c2
  go_loopw [6, 7] (fun v6 v7 wr => ∃ (i ga : Nat) (Pre : List Pc), v6 = .slice (some ⟨ga, 0, none⟩) (s.size + 1) (s.size + 1) ∧ v7 = .int .i64 i ∧ i ≤ L.length ∧ Hid (pcs L = Pre ++ pcs (L.drop i)) ∧ Cel wr ga 4 (bcs s.size (fun k => mt Pre (s.data.toList.take k))) ∧ w1.heap.size ≤ ga ∧ Below w1.heap.size w1 wr) (fun _ v7 _ => L.length - (intOf v7).toNat)
  case atStart => exact ⟨0, w1.heap.size, [], rfl, rfl, by omega, rfl, Cel.new w1 4 _, Nat.le_refl _, (Below.refl _ w1).alloc (Nat.le_refl _) _⟩
  case round =>
    obtain ⟨i, ga, Pre, rfl, rfl, hi, HP, ca, hga, hbr⟩ := hrel
    obtain ⟨wo, hwo⟩ : ∃ wo, wo = wr := ⟨_, rfl⟩
    subst hwo
    by_cases hil : i < L.length
    · obtain ⟨rfl, hcap, hgw, _⟩ := hne (by intro e; have := dd_length L; rw [e] at this; simp at this; omega)
      obtain ⟨x, hx⟩ : ∃ x, L[i]? = some x := ⟨_, List.getElem?_eq_getElem hil⟩
      have hgr : g < wo.heap.size := Nat.lt_of_lt_of_le hgw hbr.size
      have hsz := hbr.size
      have hga2 := ca.lt
      obtain ⟨d, hd⟩ : ∃ d, (!x.2) = d := ⟨_, rfl⟩
      have hlA : LtAt (wo.alloc (.cells (bcs s.size (fun _ => false)) 4)) g 0 (dd L) := (hlt.below hbr hgw).below ((Below.refl _ wo).alloc (Nat.le_refl _) _) hgr
      obtain ⟨q1, q2⟩ := hlA i _ (dd_get hx)
      simp only [Nat.zero_add] at q1 q2
      rw [hd] at q2
      have cn : Cel ((wo.alloc (.cells (bcs s.size (fun _ => false)) 4)).alloc (.cells #[.int .u8 x.1.toNat, .bool d] 81)) wo.heap.size 4 (bcs s.size (fun _ => false)) := (Cel.new wo 4 _).alloc _
      have cb : Cel ((wo.alloc (.cells (bcs s.size (fun _ => false)) 4)).alloc (.cells #[.int .u8 x.1.toNat, .bool d] 81)) (wo.heap.size + 1) 81 #[.int .u8 x.1.toNat, .bool d] := by
        have := Cel.new (wo.alloc (.cells (bcs s.size (fun _ => false)) 4)) 81 #[.int .u8 x.1.toNat, .bool d]
        rw [World.size_alloc] at this
        exact this
      obtain ⟨U, hU⟩ : ∃ U, (fun k => mt Pre (s.data.toList.take k)) = U := ⟨_, rfl⟩
      rw [hU] at ca
      have ca2 : Cel ((wo.alloc (.cells (bcs s.size (fun _ => false)) 4)).alloc (.cells #[.int .u8 x.1.toNat, .bool d] 81)) ga 4 (bcs s.size U) := (ca.alloc _).alloc _
      have hl2 : LtAt ((wo.alloc (.cells (bcs s.size (fun _ => false)) 4)).alloc (.cells #[.int .u8 x.1.toNat, .bool d] 81)) g 0 (dd L) := hlA.below ((Below.refl _ _).alloc (Nat.le_refl _) _) (by simp; omega)
      have hw2 : Below w1.heap.size w1 ((wo.alloc (.cells (bcs s.size (fun _ => false)) 4)).alloc (.cells #[.int .u8 x.1.toNat, .bool d] 81)) := (hbr.alloc hbr.size _).alloc (by simp; omega) _
      have b0 := cb.cell 0
      have b1 := cb.cell 1
      simp only [List.getElem?_toArray, List.getElem?_cons_zero, List.getElem?_cons_succ] at b0 b1
      have HX : Hid _ := hx
      have HLA : Hid _ := hlA
      have HL2 : Hid _ := hl2
      have HU : Hid _ := hU
      have HD : Hid _ := hd
      clear hx hlA hl2 hne hlt ca hU hd
      have e1 : ((x.1.toNat : Int) == 42) = (x.1 == 42) := beq_u8 x.1 42
      have e2 : ((x.1.toNat : Int) == 63) = (x.1 == 63) := beq_u8 x.1 63
      have e3 : ((x.1.toNat : Int) == 91) = (x.1 == 91) := beq_u8 x.1 91
      cases hq : isL x 42
      · cases hq2 : isL x 63
        · cases hq3 : (isL x 91 && decide (i + 1 < lastOf L))
          · have HP2 : Hid (pcs L = (Pre ++ [(false, setAdd setNo x.1.toNat x.1.toNat)]) ++ pcs (L.drop (i + 1))) := by
              have h1 := HP.out
              unfold Hid
              rw [h1, pcs_plain L i x HX.out hq hq2 hq3, List.append_assoc]; rfl
            obtain ⟨T, hT⟩ : ∃ T, (fun k => mt (Pre ++ [(false, setAdd setNo x.1.toNat x.1.toNat)]) (s.data.toList.take k)) = T := ⟨_, rfl⟩
            have hT0 : T 0 = false := by rw [← hT]; exact dp_one0 _ _ _
            have HTS : Hid (∀ k (hk : k < s.size), T (k + 1) = (U k && ((x.1.toNat : Int) == (s[k].toNat : Int)))) := fun k hk => by
              rw [← hT, ← HU.out]
              refine (dp_oneS _ _ _ _ _ (s_get s k hk)).trans ?_
              congr 1
              rw [Bool.eq_iff_iff]
              simp [setAdd, setNo]
              omega
            have HT : Hid _ := hT
            have cn2 := cn.to (row_none s.size T hT0)
            clear hT hT0 cn
            cases d
            · have hz : x.2 = true := by have := HD.out; simpa using this
              have hz1 : (x.1 == 42) = false := by unfold isL at hq; rw [hz] at hq; simpa using hq
              have hz2 : (x.1 == 63) = false := by unfold isL at hq2; rw [hz] at hq2; simpa using hq2
              have hz3 : (x.1 == 91) = true → closesL L i = -1 := fun h => closes_none L i (by unfold isL at hq3; rw [hz, h] at hq3; simpa using hq3)
              rw [hz1] at e1
              rw [hz2] at e2
              cases h91 : x.1 == 91
              · rw [h91] at e3
                clear hq hq2 hq3 hz hz1 hz2 hz3 h91
                go_wp2_with fail
                clear q1 q2 b0 b1
                go_loopw [13] (fun v13 wi => ∃ (k : Nat), v13 = .int .i64 k ∧ k ≤ s.size ∧ Cel wi wo.heap.size 4 (bcs s.size (fun j => if j ≤ k then T j else false)) ∧ Cel wi ga 4 (bcs s.size U) ∧ Cel wi (wo.heap.size + 1) 81 #[.int .u8 x.1.toNat, .bool false] ∧ Below w1.heap.size w1 wi) (fun v13 _ => s.size + 1 - (intOf v13).toNat)
                case atStart => exact ⟨0, rfl, by omega, cn2, ca2, cb, hw2⟩
                case round =>
                  obtain ⟨k, rfl, hk, cN, cA, cB, hwi⟩ := hrel
                  by_cases hkl : k < s.size
                  · have hK := HTS.out k hkl
                    have a1 := cA.bool k (by omega)
                    have n1 := cN.bool (k + 1) (by omega)
                    have n2 := cN.frozen (k + 1)
                    have b0 : _ = some (Value.int .u8 x.1.toNat) := cB.cell 0
                    have b1 : _ = some (Value.bool false) := cB.cell 1
                    cases hu : U k
                    · rw [hu] at hK a1
                      rw [row_off _ _ _ hK] at cN
                      clear hu hK n1 n2
                      go_wp2_with fail
                      exact ⟨⟨k + 1, by simp, by omega, cN, cA, cB, hwi⟩, by simp [intOf]; omega⟩
                    · rw [hu] at hK a1
                      rw [Bool.true_and] at hK
                      have cNd : Cel (World.drew wr) _ 4 _ := cN
                      have cN2 := cNd.set (j := k + 1) (.bool ((x.1.toNat : Int) == (s[k].toNat : Int)))
                      rw [row_set _ _ _ _ hK] at cN2
                      have cAd : Cel (World.drew wr) _ 4 _ := cA
                      have cBd : Cel (World.drew wr) _ 81 _ := cB
                      have cA2 := cAd.other (b' := wo.heap.size) (j := k + 1) (by omega) (.bool ((x.1.toNat : Int) == (s[k].toNat : Int)))
                      have cB2 := cBd.other (b' := wo.heap.size) (j := k + 1) (by omega) (.bool ((x.1.toNat : Int) == (s[k].toNat : Int)))
                      have hwi2 := hwi.drew.setCell (p := ⟨wo.heap.size, k + 1, none⟩) hsz (.bool ((x.1.toNat : Int) == (s[k].toNat : Int)))
                      have b0d : (World.drew wr).cell? ⟨wo.heap.size + 1, 0, none⟩ = some (Value.int .u8 x.1.toNat) := b0
                      have n1d := cNd.bool (k + 1) (by omega)
                      have n2d := cNd.frozen (k + 1)
                      clear hu hK
                      go_wp2_with fail
                      have hwk : IntKind.i64.wrap ((k : Int) + 1) = (k : Int) + 1 := by rw [IntKind.wrap_i64]; omega
                      have hk0 : ¬ ((k : Int) + 1 < 0) := by omega
                      refine wp_region_any (by kernel_rfl) ?_
                      try (change wpAny _ _ _ _ _ _ _ (World.drew _))
                      refine wpAny_take (i := 0) (v := .slice (some ⟨wo.heap.size, 0, none⟩) (s.size + 1) (s.size + 1)) rfl (by kernel_rfl) (by kernel_rfl) (by kernel_rfl) (fun _ _ _ h => h) (Or.inl ⟨by rfl, by intro wz; go_simp⟩) ?_
                      try simp only [Act.put, List.getElem_toArray, List.getElem_cons_zero, List.setIfInBounds_toArray, List.set_cons_zero, List.set_cons_succ]
                      refine wpAny_take (i := 1) (v := .int .i64 (k : Int)) rfl (by kernel_rfl) (by kernel_rfl) (by kernel_rfl) (fun _ _ _ h => h) (Or.inl ⟨by rfl, by intro wz; go_simp⟩) ?_
                      try simp only [Act.put, List.getElem_toArray, List.getElem_cons_succ, List.getElem_cons_zero, List.setIfInBounds_toArray, List.set_cons_zero, List.set_cons_succ]
                      refine wpAny_take (i := 2) (v := .int .i64 ((k : Int) + 1)) rfl (by kernel_rfl) (by kernel_rfl) (by kernel_rfl) (fun _ _ _ h => h) (Or.inl ⟨by rfl, by intro wz; go_simp⟩) ?_
                      try simp only [Act.put, List.getElem_toArray, List.getElem_cons_succ, List.getElem_cons_zero, List.setIfInBounds_toArray, List.set_cons_zero, List.set_cons_succ]
                      refine wpAny_take (i := 3) (v := .pointer (some ⟨wo.heap.size + 1, 0, none⟩)) rfl (by kernel_rfl) (by kernel_rfl) (by kernel_rfl) (fun _ _ _ h => h) (Or.inl ⟨by rfl, by intro wz; go_simp⟩) ?_
                      try simp only [Act.put, List.getElem_toArray, List.getElem_cons_succ, List.getElem_cons_zero, List.setIfInBounds_toArray, List.set_cons_zero, List.set_cons_succ]
                      refine wpAny_take (i := 5) (v := .string s) rfl (by kernel_rfl) (by kernel_rfl) (by kernel_rfl) (fun _ _ _ h => h) (Or.inl ⟨by rfl, by intro wz; go_simp⟩) ?_
                      try simp only [Act.put, List.getElem_toArray, List.getElem_cons_succ, List.getElem_cons_zero, List.setIfInBounds_toArray, List.set_cons_zero, List.set_cons_succ]
                      refine wpAny_take (i := 6) (v := .int .i64 (k : Int)) rfl (by kernel_rfl) (by kernel_rfl) (by kernel_rfl) (fun _ _ _ h => h) (Or.inl ⟨by rfl, by intro wz; go_simp⟩) ?_
                      try simp only [Act.put, List.getElem_toArray, List.getElem_cons_succ, List.getElem_cons_zero, List.setIfInBounds_toArray, List.set_cons_zero, List.set_cons_succ]
                      refine wpAny_take (i := 7) (v := .int .u8 (s[k].toNat : Int)) rfl (by kernel_rfl) (by kernel_rfl) (by kernel_rfl) (fun _ _ _ h => h) (Or.inl ⟨by rfl, by intro wz; go_simp⟩) ?_
                      try simp only [Act.put, List.getElem_toArray, List.getElem_cons_succ, List.getElem_cons_zero, List.setIfInBounds_toArray, List.set_cons_zero, List.set_cons_succ]
                      refine wpAny_ready (rs := [4]) (by kernel_rfl) (by simp) ?_
                      refine AllReady.cons rfl (fun K hK => ?_) ?_
                      · go_simp
                        refine hK _ _ ?_
                        clear hK K
                        try simp only [Act.put, List.getElem_toArray, List.getElem_cons_succ, List.getElem_cons_zero, List.setIfInBounds_toArray, List.set_cons_zero, List.set_cons_succ]
                        refine wpAny_take (i := 8) (v := .bool ((x.1.toNat : Int) == (s[k].toNat : Int))) rfl (by kernel_rfl) (by kernel_rfl) (by kernel_rfl) (fun _ _ _ h => h) (Or.inl ⟨by rfl, by intro wz; go_simp⟩) ?_
                        try simp only [Act.put, List.getElem_toArray, List.getElem_cons_succ, List.getElem_cons_zero, List.setIfInBounds_toArray, List.set_cons_zero, List.set_cons_succ]
                        refine wpAny_take (i := 9) (v := .pointer (some ⟨wo.heap.size, k + 1, none⟩)) rfl (by kernel_rfl) (by kernel_rfl) (by kernel_rfl) (fun _ _ _ h => h) (Or.inl ⟨by rfl, by intro wz; go_simp⟩) ?_
                        try simp only [Act.put, List.getElem_toArray, List.getElem_cons_succ, List.getElem_cons_zero, List.setIfInBounds_toArray, List.set_cons_zero, List.set_cons_succ]
                        refine wpAny_ready (rs := [10]) (by kernel_rfl) (by simp) ?_
                        refine AllReady.cons rfl (fun K hK => ?_) ?_
                        · go_simp
                          refine hK _ _ ?_
                          clear hK K
                          try simp only [Act.put, List.getElem_toArray, List.getElem_cons_succ, List.getElem_cons_zero, List.setIfInBounds_toArray, List.set_cons_zero, List.set_cons_succ]
                          refine wpAny_done (by kernel_rfl) ?_ _
                          go_wp2_with fail
                          exact ⟨⟨k + 1, by simp, by omega, cN2, cA2, cB2, hwi2⟩, by simp [intOf]; omega⟩
                        exact AllReady.nil
                      exact AllReady.nil
                  · obtain rfl : k = s.size := by omega
                    rw [row_all] at cN
                    go_wp2_with fail
                    exact ⟨⟨i + 1, wo.heap.size, Pre ++ [(false, setAdd setNo x.1.toNat x.1.toNat)], rfl, by simp, by omega, HP2, by rw [HT.out]; exact cN, hsz, hwi⟩, by simp [intOf]; omega⟩
              · rw [h91] at e3
                have HC : Hid _ := hz3 h91
                clear hq hq2 hq3 hz hz1 hz2 hz3 h91
                go_wp2_with (go_at_call 74; refine (rcloses_any g 0 cap L i (by omega) hLs hcap _ HL2.out).mono ?_; rintro e wq ⟨rfl, hwq⟩; obtain rfl := hwq.symm; rw [HC.out])
                clear q1 q2 b0 b1
                go_loopw [13] (fun v13 wi => ∃ (k : Nat), v13 = .int .i64 k ∧ k ≤ s.size ∧ Cel wi wo.heap.size 4 (bcs s.size (fun j => if j ≤ k then T j else false)) ∧ Cel wi ga 4 (bcs s.size U) ∧ Cel wi (wo.heap.size + 1) 81 #[.int .u8 x.1.toNat, .bool false] ∧ Below w1.heap.size w1 wi) (fun v13 _ => s.size + 1 - (intOf v13).toNat)
                case atStart => exact ⟨0, rfl, by omega, cn2, ca2, cb, hw2⟩
                case round =>
                  obtain ⟨k, rfl, hk, cN, cA, cB, hwi⟩ := hrel
                  by_cases hkl : k < s.size
                  · have hK := HTS.out k hkl
                    have a1 := cA.bool k (by omega)
                    have n1 := cN.bool (k + 1) (by omega)
                    have n2 := cN.frozen (k + 1)
                    have b0 : _ = some (Value.int .u8 x.1.toNat) := cB.cell 0
                    have b1 : _ = some (Value.bool false) := cB.cell 1
                    cases hu : U k
                    · rw [hu] at hK a1
                      rw [row_off _ _ _ hK] at cN
                      clear hu hK n1 n2
                      go_wp2_with fail
                      exact ⟨⟨k + 1, by simp, by omega, cN, cA, cB, hwi⟩, by simp [intOf]; omega⟩
                    · rw [hu] at hK a1
                      rw [Bool.true_and] at hK
                      have cNd : Cel (World.drew wr) _ 4 _ := cN
                      have cN2 := cNd.set (j := k + 1) (.bool ((x.1.toNat : Int) == (s[k].toNat : Int)))
                      rw [row_set _ _ _ _ hK] at cN2
                      have cAd : Cel (World.drew wr) _ 4 _ := cA
                      have cBd : Cel (World.drew wr) _ 81 _ := cB
                      have cA2 := cAd.other (b' := wo.heap.size) (j := k + 1) (by omega) (.bool ((x.1.toNat : Int) == (s[k].toNat : Int)))
                      have cB2 := cBd.other (b' := wo.heap.size) (j := k + 1) (by omega) (.bool ((x.1.toNat : Int) == (s[k].toNat : Int)))
                      have hwi2 := hwi.drew.setCell (p := ⟨wo.heap.size, k + 1, none⟩) hsz (.bool ((x.1.toNat : Int) == (s[k].toNat : Int)))
                      have b0d : (World.drew wr).cell? ⟨wo.heap.size + 1, 0, none⟩ = some (Value.int .u8 x.1.toNat) := b0
                      have n1d := cNd.bool (k + 1) (by omega)
                      have n2d := cNd.frozen (k + 1)
                      clear hu hK
                      go_wp2_with fail
                      have hwk : IntKind.i64.wrap ((k : Int) + 1) = (k : Int) + 1 := by rw [IntKind.wrap_i64]; omega
                      have hk0 : ¬ ((k : Int) + 1 < 0) := by omega
                      refine wp_region_any (by kernel_rfl) ?_
                      try (change wpAny _ _ _ _ _ _ _ (World.drew _))
                      refine wpAny_take (i := 0) (v := .slice (some ⟨wo.heap.size, 0, none⟩) (s.size + 1) (s.size + 1)) rfl (by kernel_rfl) (by kernel_rfl) (by kernel_rfl) (fun _ _ _ h => h) (Or.inl ⟨by rfl, by intro wz; go_simp⟩) ?_
                      try simp only [Act.put, List.getElem_toArray, List.getElem_cons_zero, List.setIfInBounds_toArray, List.set_cons_zero, List.set_cons_succ]
                      refine wpAny_take (i := 1) (v := .int .i64 (k : Int)) rfl (by kernel_rfl) (by kernel_rfl) (by kernel_rfl) (fun _ _ _ h => h) (Or.inl ⟨by rfl, by intro wz; go_simp⟩) ?_
                      try simp only [Act.put, List.getElem_toArray, List.getElem_cons_succ, List.getElem_cons_zero, List.setIfInBounds_toArray, List.set_cons_zero, List.set_cons_succ]
                      refine wpAny_take (i := 2) (v := .int .i64 ((k : Int) + 1)) rfl (by kernel_rfl) (by kernel_rfl) (by kernel_rfl) (fun _ _ _ h => h) (Or.inl ⟨by rfl, by intro wz; go_simp⟩) ?_
                      try simp only [Act.put, List.getElem_toArray, List.getElem_cons_succ, List.getElem_cons_zero, List.setIfInBounds_toArray, List.set_cons_zero, List.set_cons_succ]
                      refine wpAny_take (i := 3) (v := .pointer (some ⟨wo.heap.size + 1, 0, none⟩)) rfl (by kernel_rfl) (by kernel_rfl) (by kernel_rfl) (fun _ _ _ h => h) (Or.inl ⟨by rfl, by intro wz; go_simp⟩) ?_
                      try simp only [Act.put, List.getElem_toArray, List.getElem_cons_succ, List.getElem_cons_zero, List.setIfInBounds_toArray, List.set_cons_zero, List.set_cons_succ]
                      refine wpAny_take (i := 5) (v := .string s) rfl (by kernel_rfl) (by kernel_rfl) (by kernel_rfl) (fun _ _ _ h => h) (Or.inl ⟨by rfl, by intro wz; go_simp⟩) ?_
                      try simp only [Act.put, List.getElem_toArray, List.getElem_cons_succ, List.getElem_cons_zero, List.setIfInBounds_toArray, List.set_cons_zero, List.set_cons_succ]
                      refine wpAny_take (i := 6) (v := .int .i64 (k : Int)) rfl (by kernel_rfl) (by kernel_rfl) (by kernel_rfl) (fun _ _ _ h => h) (Or.inl ⟨by rfl, by intro wz; go_simp⟩) ?_
                      try simp only [Act.put, List.getElem_toArray, List.getElem_cons_succ, List.getElem_cons_zero, List.setIfInBounds_toArray, List.set_cons_zero, List.set_cons_succ]
                      refine wpAny_take (i := 7) (v := .int .u8 (s[k].toNat : Int)) rfl (by kernel_rfl) (by kernel_rfl) (by kernel_rfl) (fun _ _ _ h => h) (Or.inl ⟨by rfl, by intro wz; go_simp⟩) ?_
                      try simp only [Act.put, List.getElem_toArray, List.getElem_cons_succ, List.getElem_cons_zero, List.setIfInBounds_toArray, List.set_cons_zero, List.set_cons_succ]
                      refine wpAny_ready (rs := [4]) (by kernel_rfl) (by simp) ?_
                      refine AllReady.cons rfl (fun K hK => ?_) ?_
                      · go_simp
                        refine hK _ _ ?_
                        clear hK K
                        try simp only [Act.put, List.getElem_toArray, List.getElem_cons_succ, List.getElem_cons_zero, List.setIfInBounds_toArray, List.set_cons_zero, List.set_cons_succ]
                        refine wpAny_take (i := 8) (v := .bool ((x.1.toNat : Int) == (s[k].toNat : Int))) rfl (by kernel_rfl) (by kernel_rfl) (by kernel_rfl) (fun _ _ _ h => h) (Or.inl ⟨by rfl, by intro wz; go_simp⟩) ?_
                        try simp only [Act.put, List.getElem_toArray, List.getElem_cons_succ, List.getElem_cons_zero, List.setIfInBounds_toArray, List.set_cons_zero, List.set_cons_succ]
                        refine wpAny_take (i := 9) (v := .pointer (some ⟨wo.heap.size, k + 1, none⟩)) rfl (by kernel_rfl) (by kernel_rfl) (by kernel_rfl) (fun _ _ _ h => h) (Or.inl ⟨by rfl, by intro wz; go_simp⟩) ?_
                        try simp only [Act.put, List.getElem_toArray, List.getElem_cons_succ, List.getElem_cons_zero, List.setIfInBounds_toArray, List.set_cons_zero, List.set_cons_succ]
                        refine wpAny_ready (rs := [10]) (by kernel_rfl) (by simp) ?_
                        refine AllReady.cons rfl (fun K hK => ?_) ?_
                        · go_simp
                          refine hK _ _ ?_
                          clear hK K
                          try simp only [Act.put, List.getElem_toArray, List.getElem_cons_succ, List.getElem_cons_zero, List.setIfInBounds_toArray, List.set_cons_zero, List.set_cons_succ]
                          refine wpAny_done (by kernel_rfl) ?_ _
                          go_wp2_with fail
                          exact ⟨⟨k + 1, by simp, by omega, cN2, cA2, cB2, hwi2⟩, by simp [intOf]; omega⟩
                        exact AllReady.nil
                      exact AllReady.nil
                  · obtain rfl : k = s.size := by omega
                    rw [row_all] at cN
                    go_wp2_with fail
                    exact ⟨⟨i + 1, wo.heap.size, Pre ++ [(false, setAdd setNo x.1.toNat x.1.toNat)], rfl, by simp, by omega, HP2, by rw [HT.out]; exact cN, hsz, hwi⟩, by simp [intOf]; omega⟩
            · clear hq hq2 hq3
              go_wp2_with fail
              clear q1 q2 b0 b1
              go_loopw [13] (fun v13 wi => ∃ (k : Nat), v13 = .int .i64 k ∧ k ≤ s.size ∧ Cel wi wo.heap.size 4 (bcs s.size (fun j => if j ≤ k then T j else false)) ∧ Cel wi ga 4 (bcs s.size U) ∧ Cel wi (wo.heap.size + 1) 81 #[.int .u8 x.1.toNat, .bool true] ∧ Below w1.heap.size w1 wi) (fun v13 _ => s.size + 1 - (intOf v13).toNat)
              case atStart => exact ⟨0, rfl, by omega, cn2, ca2, cb, hw2⟩
              case round =>
                obtain ⟨k, rfl, hk, cN, cA, cB, hwi⟩ := hrel
                by_cases hkl : k < s.size
                · have hK := HTS.out k hkl
                  have a1 := cA.bool k (by omega)
                  have n1 := cN.bool (k + 1) (by omega)
                  have n2 := cN.frozen (k + 1)
                  have b0 : _ = some (Value.int .u8 x.1.toNat) := cB.cell 0
                  have b1 : _ = some (Value.bool true) := cB.cell 1
                  cases hu : U k
                  · rw [hu] at hK a1
                    rw [row_off _ _ _ hK] at cN
                    clear hu hK n1 n2
                    go_wp2_with fail
                    exact ⟨⟨k + 1, by simp, by omega, cN, cA, cB, hwi⟩, by simp [intOf]; omega⟩
                  · rw [hu] at hK a1
                    rw [Bool.true_and] at hK
                    have cNd : Cel (World.drew wr) _ 4 _ := cN
                    have cN2 := cNd.set (j := k + 1) (.bool ((x.1.toNat : Int) == (s[k].toNat : Int)))
                    rw [row_set _ _ _ _ hK] at cN2
                    have cAd : Cel (World.drew wr) _ 4 _ := cA
                    have cBd : Cel (World.drew wr) _ 81 _ := cB
                    have cA2 := cAd.other (b' := wo.heap.size) (j := k + 1) (by omega) (.bool ((x.1.toNat : Int) == (s[k].toNat : Int)))
                    have cB2 := cBd.other (b' := wo.heap.size) (j := k + 1) (by omega) (.bool ((x.1.toNat : Int) == (s[k].toNat : Int)))
                    have hwi2 := hwi.drew.setCell (p := ⟨wo.heap.size, k + 1, none⟩) hsz (.bool ((x.1.toNat : Int) == (s[k].toNat : Int)))
                    have b0d : (World.drew wr).cell? ⟨wo.heap.size + 1, 0, none⟩ = some (Value.int .u8 x.1.toNat) := b0
                    have n1d := cNd.bool (k + 1) (by omega)
                    have n2d := cNd.frozen (k + 1)
                    clear hu hK
                    go_wp2_with fail
                    have hwk : IntKind.i64.wrap ((k : Int) + 1) = (k : Int) + 1 := by rw [IntKind.wrap_i64]; omega
                    have hk0 : ¬ ((k : Int) + 1 < 0) := by omega
                    refine wp_region_any (by kernel_rfl) ?_
                    try (change wpAny _ _ _ _ _ _ _ (World.drew _))
                    refine wpAny_take (i := 0) (v := .slice (some ⟨wo.heap.size, 0, none⟩) (s.size + 1) (s.size + 1)) rfl (by kernel_rfl) (by kernel_rfl) (by kernel_rfl) (fun _ _ _ h => h) (Or.inl ⟨by rfl, by intro wz; go_simp⟩) ?_
                    try simp only [Act.put, List.getElem_toArray, List.getElem_cons_zero, List.setIfInBounds_toArray, List.set_cons_zero, List.set_cons_succ]
                    refine wpAny_take (i := 1) (v := .int .i64 (k : Int)) rfl (by kernel_rfl) (by kernel_rfl) (by kernel_rfl) (fun _ _ _ h => h) (Or.inl ⟨by rfl, by intro wz; go_simp⟩) ?_
                    try simp only [Act.put, List.getElem_toArray, List.getElem_cons_succ, List.getElem_cons_zero, List.setIfInBounds_toArray, List.set_cons_zero, List.set_cons_succ]
                    refine wpAny_take (i := 2) (v := .int .i64 ((k : Int) + 1)) rfl (by kernel_rfl) (by kernel_rfl) (by kernel_rfl) (fun _ _ _ h => h) (Or.inl ⟨by rfl, by intro wz; go_simp⟩) ?_
                    try simp only [Act.put, List.getElem_toArray, List.getElem_cons_succ, List.getElem_cons_zero, List.setIfInBounds_toArray, List.set_cons_zero, List.set_cons_succ]
                    refine wpAny_take (i := 3) (v := .pointer (some ⟨wo.heap.size + 1, 0, none⟩)) rfl (by kernel_rfl) (by kernel_rfl) (by kernel_rfl) (fun _ _ _ h => h) (Or.inl ⟨by rfl, by intro wz; go_simp⟩) ?_
                    try simp only [Act.put, List.getElem_toArray, List.getElem_cons_succ, List.getElem_cons_zero, List.setIfInBounds_toArray, List.set_cons_zero, List.set_cons_succ]
                    refine wpAny_take (i := 5) (v := .string s) rfl (by kernel_rfl) (by kernel_rfl) (by kernel_rfl) (fun _ _ _ h => h) (Or.inl ⟨by rfl, by intro wz; go_simp⟩) ?_
                    try simp only [Act.put, List.getElem_toArray, List.getElem_cons_succ, List.getElem_cons_zero, List.setIfInBounds_toArray, List.set_cons_zero, List.set_cons_succ]
                    refine wpAny_take (i := 6) (v := .int .i64 (k : Int)) rfl (by kernel_rfl) (by kernel_rfl) (by kernel_rfl) (fun _ _ _ h => h) (Or.inl ⟨by rfl, by intro wz; go_simp⟩) ?_
                    try simp only [Act.put, List.getElem_toArray, List.getElem_cons_succ, List.getElem_cons_zero, List.setIfInBounds_toArray, List.set_cons_zero, List.set_cons_succ]
                    refine wpAny_take (i := 7) (v := .int .u8 (s[k].toNat : Int)) rfl (by kernel_rfl) (by kernel_rfl) (by kernel_rfl) (fun _ _ _ h => h) (Or.inl ⟨by rfl, by intro wz; go_simp⟩) ?_
                    try simp only [Act.put, List.getElem_toArray, List.getElem_cons_succ, List.getElem_cons_zero, List.setIfInBounds_toArray, List.set_cons_zero, List.set_cons_succ]
                    refine wpAny_ready (rs := [4]) (by kernel_rfl) (by simp) ?_
                    refine AllReady.cons rfl (fun K hK => ?_) ?_
                    · go_simp
                      refine hK _ _ ?_
                      clear hK K
                      try simp only [Act.put, List.getElem_toArray, List.getElem_cons_succ, List.getElem_cons_zero, List.setIfInBounds_toArray, List.set_cons_zero, List.set_cons_succ]
                      refine wpAny_take (i := 8) (v := .bool ((x.1.toNat : Int) == (s[k].toNat : Int))) rfl (by kernel_rfl) (by kernel_rfl) (by kernel_rfl) (fun _ _ _ h => h) (Or.inl ⟨by rfl, by intro wz; go_simp⟩) ?_
                      try simp only [Act.put, List.getElem_toArray, List.getElem_cons_succ, List.getElem_cons_zero, List.setIfInBounds_toArray, List.set_cons_zero, List.set_cons_succ]
                      refine wpAny_take (i := 9) (v := .pointer (some ⟨wo.heap.size, k + 1, none⟩)) rfl (by kernel_rfl) (by kernel_rfl) (by kernel_rfl) (fun _ _ _ h => h) (Or.inl ⟨by rfl, by intro wz; go_simp⟩) ?_
                      try simp only [Act.put, List.getElem_toArray, List.getElem_cons_succ, List.getElem_cons_zero, List.setIfInBounds_toArray, List.set_cons_zero, List.set_cons_succ]
                      refine wpAny_ready (rs := [10]) (by kernel_rfl) (by simp) ?_
                      refine AllReady.cons rfl (fun K hK => ?_) ?_
                      · go_simp
                        refine hK _ _ ?_
                        clear hK K
                        try simp only [Act.put, List.getElem_toArray, List.getElem_cons_succ, List.getElem_cons_zero, List.setIfInBounds_toArray, List.set_cons_zero, List.set_cons_succ]
                        refine wpAny_done (by kernel_rfl) ?_ _
                        go_wp2_with fail
                        exact ⟨⟨k + 1, by simp, by omega, cN2, cA2, cB2, hwi2⟩, by simp [intOf]; omega⟩
                      exact AllReady.nil
                    exact AllReady.nil
                · obtain rfl : k = s.size := by omega
                  rw [row_all] at cN
                  go_wp2_with fail
                  exact ⟨⟨i + 1, wo.heap.size, Pre ++ [(false, setAdd setNo x.1.toNat x.1.toNat)], rfl, by simp, by omega, HP2, by rw [HT.out]; exact cN, hsz, hwi⟩, by simp [intOf]; omega⟩
          · obtain ⟨j, hj1, hj2, hj3⟩ := pcs_set L i x HX.out hq hq2 hq3
            have HC : Hid (closesL L i = ((i + 2 + j : Nat) : Int)) := by unfold Hid closesL; rw [hj1]
            obtain ⟨M, hM⟩ : ∃ M, (L.drop (i + 1)).take (j + 1) = M := ⟨_, rfl⟩
            have HP2 : Hid (pcs L = (Pre ++ [(false, amongS M)]) ++ pcs (L.drop (i + 2 + j + 1))) := by
              have h1 := HP.out
              unfold Hid
              rw [h1, hj3, hM, List.append_assoc]; rfl
            have hMl : M.length = j + 1 := by rw [← hM]; simp; omega
            have HMA : Hid (∀ W, LtAt W g 0 (dd L) → LtAt W g ((i + 1) * 2) (dd M)) := fun W h => by
              intro k z hz
              have hkl : k < j + 1 := by have := isl_at hz; rw [dd_length, hMl] at this; exact this
              have hz2 : (dd L)[i + 1 + k]? = some z := by
                unfold dd at hz ⊢
                rw [← hM, List.getElem?_map, List.getElem?_take_of_lt hkl, List.getElem?_drop] at hz
                rw [List.getElem?_map]; exact hz
              have h1 := h _ _ hz2
              rw [show 0 + (i + 1 + k) * 2 = (i + 1) * 2 + k * 2 by omega] at h1
              exact h1
            obtain ⟨T, hT⟩ : ∃ T, (fun k => mt (Pre ++ [(false, amongS M)]) (s.data.toList.take k)) = T := ⟨_, rfl⟩
            have hT0 : T 0 = false := by rw [← hT]; exact dp_one0 _ _ _
            have HTS : Hid (∀ k (hk : k < s.size), T (k + 1) = (U k && amongS M s[k].toNat)) := fun k hk => by
              rw [← hT, ← HU.out]
              exact dp_oneS _ _ _ _ _ (s_get s k hk)
            have HT : Hid _ := hT
            have cn2 := cn.to (row_none s.size T hT0)
            have hz : (x.1 == 91) = true ∧ x.2 = true := by
              unfold isL at hq3
              simp at hq3
              exact ⟨by simpa using hq3.1.2, hq3.1.1⟩
            have hz1 : (x.1 == 42) = false := by
              have := hz.1
              simp at this
              rw [this]; rfl
            have hz2 : (x.1 == 63) = false := by
              have := hz.1
              simp at this
              rw [this]; rfl
            obtain rfl : d = false := by rw [← HD.out, hz.2]; rfl
            rw [hz1] at e1
            rw [hz2] at e2
            rw [hz.1] at e3
            clear hT hT0 cn hz hz1 hz2 hq hq2 hq3 hM hj1 hj3
            go_wp2_with (go_at_call 74; refine (rcloses_any g 0 cap L i (by omega) hLs hcap _ HL2.out).mono ?_; rintro e wq ⟨rfl, hwq⟩; obtain rfl := hwq.symm; rw [HC.out])
            clear q1 q2 b0 b1
            go_loopw [13] (fun v13 wi => ∃ (k : Nat), v13 = .int .i64 k ∧ k ≤ s.size ∧ Cel wi wo.heap.size 4 (bcs s.size (fun j => if j ≤ k then T j else false)) ∧ Cel wi ga 4 (bcs s.size U) ∧ Cel wi (wo.heap.size + 1) 81 #[.int .u8 x.1.toNat, .bool false] ∧ Below w1.heap.size w1 wi ∧ Hid (LtAt wi g 0 (dd L))) (fun v13 _ => s.size + 1 - (intOf v13).toNat)
            case atStart => exact ⟨0, rfl, by omega, cn2, ca2, cb, hw2, HL2⟩
            case round =>
              obtain ⟨k, rfl, hk, cN, cA, cB, hwi, HLW⟩ := hrel
              by_cases hkl : k < s.size
              · have hK := HTS.out k hkl
                have a1 := cA.bool k (by omega)
                have n1 := cN.bool (k + 1) (by omega)
                have n2 := cN.frozen (k + 1)
                have b0 : _ = some (Value.int .u8 x.1.toNat) := cB.cell 0
                have b1 : _ = some (Value.bool false) := cB.cell 1
                cases hu : U k
                · rw [hu] at hK a1
                  rw [row_off _ _ _ hK] at cN
                  clear hu hK n1 n2
                  go_wp2_with fail
                  exact ⟨⟨k + 1, by simp, by omega, cN, cA, cB, hwi, HLW⟩, by simp [intOf]; omega⟩
                · rw [hu] at hK a1
                  rw [Bool.true_and] at hK
                  have HMW : Hid _ := HMA.out _ HLW.out
                  obtain ⟨y, hy⟩ : ∃ y, M[0]? = some y := ⟨_, List.getElem?_eq_getElem (by omega)⟩
                  obtain ⟨y1, y2⟩ := HMW.out 0 _ (dd_get hy)
                  simp only [Nat.zero_mul, Nat.add_zero] at y1 y2
                  have HY : Hid _ := hy
                  have HK : Hid _ := hK
                  clear hu hK hy
                  have ey : ((y.1.toNat : Int) == 94) = (y.1 == 94) := beq_u8 y.1 94
                  have htu : turnedL M = (decide (1 < j + 1) && (y.2 && y.1 == 94)) := by
                    unfold turnedL
                    rw [hMl]
                    congr 1
                    have := HY.out
                    cases M with
                    | nil => simp at this
                    | cons z r => simp at this; subst this; rfl
                  by_cases hj0 : 1 < j + 1
                  · cases h94 : y.1 == 94
                    · have htn : turnedL M = false := by rw [htu, h94]; simp
                      rw [h94] at ey
                      clear htu h94
                      obtain ⟨b, hb⟩ : ∃ b, fillS M setNo s[k].toNat = b := ⟨_, rfl⟩
                      have hv : T (k + 1) = b := by rw [HK.out]; unfold amongS; rw [htn]; simp [hb]
                      have hc := rhas_any g ((i + 1) * 2) (cap - (i + 1)) M s[k] (by omega) (by omega) _ HMW.out
                      rw [show M.length = (i + 2 + j - (i + 1)) by omega] at hc
                      rw [hb] at hc
                      have HCC : Hid _ := hc
                      have cN2 := cN.set (j := k + 1) (.bool b)
                      rw [row_set _ _ _ _ hv] at cN2
                      have cA2 := cA.other (b' := wo.heap.size) (j := k + 1) (by omega) (.bool b)
                      have cB2 := cB.other (b' := wo.heap.size) (j := k + 1) (by omega) (.bool b)
                      have hwi2 := hwi.setCell (p := ⟨wo.heap.size, k + 1, none⟩) hsz (.bool b)
                      have hlw2 : Hid (LtAt _ g 0 (dd L)) := LtAt.below HLW.out ((Below.refl w1.heap.size _).setCell (p := ⟨wo.heap.size, k + 1, none⟩) hsz (.bool b)) hgw
                      clear hb hv hc htn
                      cases b
                      all_goals
                        go_wp2_with fail
                        refine Calls.mono HCC.out ?_
                        rintro e wq ⟨rfl, hwq⟩
                        obtain rfl := hwq.symm
                        go_wp2_with fail
                        exact ⟨⟨k + 1, by simp, by omega, cN2, cA2, cB2, hwi2, hlw2⟩, by simp [intOf]; omega⟩
                    · cases hy2 : y.2
                      · have htn : turnedL M = false := by rw [htu, hy2]; simp
                        rw [h94] at ey
                        rw [hy2] at y2
                        clear htu h94 hy2
                        obtain ⟨b, hb⟩ : ∃ b, fillS M setNo s[k].toNat = b := ⟨_, rfl⟩
                        have hv : T (k + 1) = b := by rw [HK.out]; unfold amongS; rw [htn]; simp [hb]
                        have hc := rhas_any g ((i + 1) * 2) (cap - (i + 1)) M s[k] (by omega) (by omega) _ HMW.out
                        rw [show M.length = (i + 2 + j - (i + 1)) by omega] at hc
                        rw [hb] at hc
                        have HCC : Hid _ := hc
                        have cN2 := cN.set (j := k + 1) (.bool b)
                        rw [row_set _ _ _ _ hv] at cN2
                        have cA2 := cA.other (b' := wo.heap.size) (j := k + 1) (by omega) (.bool b)
                        have cB2 := cB.other (b' := wo.heap.size) (j := k + 1) (by omega) (.bool b)
                        have hwi2 := hwi.setCell (p := ⟨wo.heap.size, k + 1, none⟩) hsz (.bool b)
                        have hlw2 : Hid (LtAt _ g 0 (dd L)) := LtAt.below HLW.out ((Below.refl w1.heap.size _).setCell (p := ⟨wo.heap.size, k + 1, none⟩) hsz (.bool b)) hgw
                        clear hb hv hc htn
                        cases b
                        all_goals
                          go_wp2_with fail
                          refine Calls.mono HCC.out ?_
                          rintro e wq ⟨rfl, hwq⟩
                          obtain rfl := hwq.symm
                          go_wp2_with fail
                          exact ⟨⟨k + 1, by simp, by omega, cN2, cA2, cB2, hwi2, hlw2⟩, by simp [intOf]; omega⟩
                      · have htn : turnedL M = true := by rw [htu, hy2, h94, decide_eq_true hj0]; rfl
                        rw [h94] at ey
                        rw [hy2] at y2
                        clear htu h94 hy2
                        obtain ⟨b, hb⟩ : ∃ b, fillS M.tail setNo s[k].toNat = b := ⟨_, rfl⟩
                        have hv : T (k + 1) = (!b) := by rw [HK.out]; unfold amongS; rw [htn]; simp [setNot, hb]
                        have hc := rhas_any g ((i + 1) * 2 + 2) (cap - (i + 1) - 1) M.tail s[k] (by simp; omega) (by simp; omega) _ (lt_tail HMW.out)
                        rw [show M.tail.length = (i + 2 + j - (i + 1) - 1) by simp; omega] at hc
                        rw [hb] at hc
                        have HCC : Hid _ := hc
                        have cN2 := cN.set (j := k + 1) (.bool (!b))
                        rw [row_set _ _ _ _ hv] at cN2
                        have cA2 := cA.other (b' := wo.heap.size) (j := k + 1) (by omega) (.bool (!b))
                        have cB2 := cB.other (b' := wo.heap.size) (j := k + 1) (by omega) (.bool (!b))
                        have hwi2 := hwi.setCell (p := ⟨wo.heap.size, k + 1, none⟩) hsz (.bool (!b))
                        have hlw2 : Hid (LtAt _ g 0 (dd L)) := LtAt.below HLW.out ((Below.refl w1.heap.size _).setCell (p := ⟨wo.heap.size, k + 1, none⟩) hsz (.bool (!b))) hgw
                        clear hb hv hc htn
                        cases b
                        all_goals
                          go_wp2_with fail
                          refine Calls.mono HCC.out ?_
                          rintro e wq ⟨rfl, hwq⟩
                          obtain rfl := hwq.symm
                          go_wp2_with fail
                          exact ⟨⟨k + 1, by simp, by omega, cN2, cA2, cB2, hwi2, hlw2⟩, by simp [intOf]; omega⟩
                  · have htn : turnedL M = false := by rw [htu, decide_eq_false hj0]; simp
                    clear htu
                    obtain ⟨b, hb⟩ : ∃ b, fillS M setNo s[k].toNat = b := ⟨_, rfl⟩
                    have hv : T (k + 1) = b := by rw [HK.out]; unfold amongS; rw [htn]; simp [hb]
                    have hc := rhas_any g ((i + 1) * 2) (cap - (i + 1)) M s[k] (by omega) (by omega) _ HMW.out
                    rw [show M.length = (i + 2 + j - (i + 1)) by omega] at hc
                    rw [hb] at hc
                    have HCC : Hid _ := hc
                    have cN2 := cN.set (j := k + 1) (.bool b)
                    rw [row_set _ _ _ _ hv] at cN2
                    have cA2 := cA.other (b' := wo.heap.size) (j := k + 1) (by omega) (.bool b)
                    have cB2 := cB.other (b' := wo.heap.size) (j := k + 1) (by omega) (.bool b)
                    have hwi2 := hwi.setCell (p := ⟨wo.heap.size, k + 1, none⟩) hsz (.bool b)
                    have hlw2 : Hid (LtAt _ g 0 (dd L)) := LtAt.below HLW.out ((Below.refl w1.heap.size _).setCell (p := ⟨wo.heap.size, k + 1, none⟩) hsz (.bool b)) hgw
                    clear hb hv hc htn
                    cases b
                    all_goals
                      go_wp2_with fail
                      refine Calls.mono HCC.out ?_
                      rintro e wq ⟨rfl, hwq⟩
                      obtain rfl := hwq.symm
                      go_wp2_with fail
                      exact ⟨⟨k + 1, by simp, by omega, cN2, cA2, cB2, hwi2, hlw2⟩, by simp [intOf]; omega⟩
              · obtain rfl : k = s.size := by omega
                rw [row_all] at cN
                go_wp2_with fail
                exact ⟨⟨i + 2 + j + 1, wo.heap.size, Pre ++ [(false, amongS M)], rfl, by simp, by omega, HP2, by rw [HT.out]; exact cN, hsz, hwi⟩, by simp [intOf]; omega⟩
        · have hz : (x.1 == 63) = true ∧ x.2 = true := by
            unfold isL at hq2
            simp at hq2
            exact ⟨by simpa using hq2.2, hq2.1⟩
          have hz1 : (x.1 == 42) = false := by
            have := hz.1
            simp at this
            rw [this]; rfl
          have hz3 : (x.1 == 91) = false := by
            have := hz.1
            simp at this
            rw [this]; rfl
          have HP2 : Hid (pcs L = (Pre ++ [(false, setNot setNo)]) ++ pcs (L.drop (i + 1))) := by
            have h1 := HP.out
            unfold Hid
            rw [h1, pcs_quest L i x HX.out hq hq2, List.append_assoc]; rfl
          obtain rfl : d = false := by rw [← HD.out, hz.2]; rfl
          rw [hz1] at e1
          rw [hz.1] at e2
          rw [hz3] at e3
          clear hz hz1 hz3 hq hq2 HL2
          obtain ⟨T, hT⟩ : ∃ T, (fun k => mt (Pre ++ [(false, setNot setNo)]) (s.data.toList.take k)) = T := ⟨_, rfl⟩
          have hT0 : T 0 = false := by rw [← hT]; exact dp_one0 _ _ _
          have HTS : Hid (∀ k, k < s.size → T (k + 1) = U k) := fun k hk => by
            rw [← hT, ← HU.out]
            refine (dp_oneS _ _ _ _ _ (s_get s k hk)).trans ?_
            simp [setNot, setNo]
          have HT : Hid _ := hT
          have cn2 := cn.to (row_none s.size T hT0)
          clear hT hT0 cn
          go_wp2_with fail
          clear q1 q2 b0 b1
          go_loopw [13] (fun v13 wi => ∃ (k : Nat), v13 = .int .i64 k ∧ k ≤ s.size ∧ Cel wi wo.heap.size 4 (bcs s.size (fun j => if j ≤ k then T j else false)) ∧ Cel wi ga 4 (bcs s.size U) ∧ Cel wi (wo.heap.size + 1) 81 #[.int .u8 x.1.toNat, .bool false] ∧ Below w1.heap.size w1 wi) (fun v13 _ => s.size + 1 - (intOf v13).toNat)
          case atStart => exact ⟨0, rfl, by omega, cn2, ca2, cb, hw2⟩
          case round =>
            obtain ⟨k, rfl, hk, cN, cA, cB, hwi⟩ := hrel
            by_cases hkl : k < s.size
            · have hK := HTS.out k hkl
              have a1 := cA.bool k (by omega)
              have n1 := cN.bool (k + 1) (by omega)
              have n2 := cN.frozen (k + 1)
              have b0 : _ = some (Value.int .u8 x.1.toNat) := cB.cell 0
              have b1 : _ = some (Value.bool false) := cB.cell 1
              cases hu : U k
              · rw [hu] at hK a1
                rw [row_off _ _ _ hK] at cN
                clear hu hK n1 n2
                go_wp2_with fail
                exact ⟨⟨k + 1, by simp, by omega, cN, cA, cB, hwi⟩, by simp [intOf]; omega⟩
              · rw [hu] at hK a1
                have cN2 := cN.set (j := k + 1) (.bool true)
                rw [row_set _ _ _ _ hK] at cN2
                have cA2 := cA.other (b' := wo.heap.size) (j := k + 1) (by omega) (.bool true)
                have cB2 := cB.other (b' := wo.heap.size) (j := k + 1) (by omega) (.bool true)
                have hwi2 := hwi.setCell (p := ⟨wo.heap.size, k + 1, none⟩) hsz (.bool true)
                clear hu hK
                go_wp2_with fail
                exact ⟨⟨k + 1, by simp, by omega, cN2, cA2, cB2, hwi2⟩, by simp [intOf]; omega⟩
            · obtain rfl : k = s.size := by omega
              rw [row_all] at cN
              go_wp2_with fail
              exact ⟨⟨i + 1, wo.heap.size, Pre ++ [(false, setNot setNo)], rfl, by simp, by omega, HP2, by rw [HT.out]; exact cN, hsz, hwi⟩, by simp [intOf]; omega⟩
      · have hz : (x.1 == 42) = true ∧ x.2 = true := by
          unfold isL at hq
          simp at hq
          exact ⟨by simpa using hq.2, hq.1⟩
        have hz3 : (x.1 == 91) = false := by
          have := hz.1
          simp at this
          rw [this]; rfl
        have HP2 : Hid (pcs L = (Pre ++ [(true, setNo)]) ++ pcs (L.drop (i + 1))) := by
          have h1 := HP.out
          unfold Hid
          rw [h1, pcs_star L i x HX.out hq, List.append_assoc]; rfl
        obtain rfl : d = false := by rw [← HD.out, hz.2]; rfl
        rw [hz.1] at e1
        rw [hz3] at e3
        clear hz hz3 hq e2 HL2
        obtain ⟨T, hT⟩ : ∃ T, (fun k => mt (Pre ++ [(true, setNo)]) (s.data.toList.take k)) = T := ⟨_, rfl⟩
        have HT0 : Hid (T 0 = U 0) := by
          unfold Hid
          rw [← hT, ← HU.out]
          exact dp_star0 _ _ _
        have HTS : Hid (∀ k, k + 1 ≤ s.size → T (k + 1) = (T k || U (k + 1))) := fun k hk => by
          rw [← hT, ← HU.out]
          exact dp_starS _ _ _ _ (by simpa using hk)
        have HT : Hid _ := hT
        clear hT
        go_wp2_with fail
        clear q1 q2 b0 b1
        go_loopw [11, 12] (fun v11 v12 wi => ∃ (k : Nat) (o : Bool), v12 = .int .i64 k ∧ v11 = .bool o ∧ k ≤ s.size + 1 ∧ Hid (k ≤ s.size → T k = (o || U k)) ∧ Cel wi wo.heap.size 4 (bcs s.size (fun j => if j < k then T j else false)) ∧ Cel wi ga 4 (bcs s.size U) ∧ Below w1.heap.size w1 wi) (fun _ v12 _ => s.size + 1 - (intOf v12).toNat)
        case atStart => exact ⟨0, false, rfl, rfl, by omega, fun _ => by rw [HT0.out]; simp, cn, ca2, hw2⟩
        case round =>
          obtain ⟨k, o, rfl, rfl, hk, HK, cN, cA, hwi⟩ := hrel
          by_cases hkl : k ≤ s.size
          · have hK := HK.out hkl
            have a1 := cA.bool k hkl
            have n1 := cN.bool k hkl
            have n2 := cN.frozen k
            have HS : Hid (k + 1 ≤ s.size → T (k + 1) = (T k || U (k + 1))) := HTS.out k
            have cN2 := cN.set (j := k) (.bool (T k))
            rw [bcs_set, bcs_congr s.size _ (fun j => if j < k + 1 then T j else false) (fun j hj => by
              by_cases e : j = k
              · subst e; simp
              · by_cases e2 : j < k
                · simp [e, e2, show j < k + 1 by omega]
                · simp [e, e2, show ¬ j < k + 1 by omega])] at cN2
            have cA2 := cA.other (b' := wo.heap.size) (j := k) (by omega) (.bool (T k))
            have hwi2 := hwi.setCell (p := ⟨wo.heap.size, k, none⟩) hsz (.bool (T k))
            generalize T k = tk at hK cN2 cA2 hwi2 HS
            generalize U k = uk at hK a1
            subst hK
            cases o
            all_goals
              simp only [Bool.true_or, Bool.false_or] at cN2 cA2 hwi2 HS
              go_wp2_with fail
              exact ⟨⟨k + 1, _, by simp, rfl, by omega, HS, cN2, cA2, hwi2⟩, by simp [intOf]; omega⟩
          · obtain rfl : k = s.size + 1 := by omega
            rw [bcs_congr s.size _ T (fun j hj => by simp [show j < s.size + 1 by omega])] at cN
            go_wp2_with fail
            exact ⟨⟨i + 1, wo.heap.size, Pre ++ [(true, setNo)], rfl, by simp, by omega, HP2, by rw [HT.out]; exact cN, hsz, hwi⟩, by simp [intOf]; omega⟩
    · obtain rfl : i = L.length := by omega
      have hA2 : Hid (mt Pre (s.data.toList.take s.size) = A) := by
        have h1 := HP.out
        rw [List.drop_length, pcs, List.append_nil] at h1
        unfold Hid
        rw [← h1, List.take_of_length_le (by simp)]
        exact HA.out
      have a1 := ca.bool s.size (Nat.le_refl _)
      rw [hA2.out] at a1
      clear hne hlt
      go_wp2_with fail
      go_ret
      exact ⟨rfl, hb1.trans (hbr.mono hb1.size)⟩
end Go.Proofs.YtdajacodfnidfaaGreatDoor
