/- Equalities of lists. -/
import Derived.Test.YthhghkjgffcpeaaDoorSame
namespace Go.Proofs.YthhghkjgffcpeaaDoor
open Go.RowKit

theorem evs_ext (A B : List Ev) (k : Nat) (hl : A.length = B.length) (h : ∀ j, j < k → A[j]? = B[j]?) (hk : k = A.length) : A = B := by
  apply List.ext_getElem?
  intro j
  by_cases hj : j < k
  · exact h j hj
  · rw [List.getElem?_eq_none (by omega), List.getElem?_eq_none (by omega)]
theorem fst_at (X : List (Ev × Value)) (k : Nat) (p : Ev × Value) (h : X[k]? = some p) : (X.map Prod.fst)[k]? = some p.1 := by rw [List.getElem?_map, h]; rfl

set_option maxRecDepth 100000 in
set_option maxHeartbeats 4000000 in
theorem sameEvents_any (va vb : Value) (X Z : List (Ev × Value)) (w : World) (ha : EvAt w va X) (hb : EvAt w vb Z) (hlx : X.length < 4294967296) (_hly : Z.length < 4294967296) (hx : ∀ p ∈ X, p.1.l.length < 4294967296) (hy : ∀ p ∈ Z, p.1.l.length < 4294967296) :
    Calls Tryd.prog 27 #[va, vb] w fun e w' => e = .returned (.bool (sameEs (X.map Prod.fst) (Z.map Prod.fst))) ∧ Below w.heap.size w w' := by
  have HA : Hid (∀ W', Below w.heap.size w W' → EvAt W' va X) := fun W' h => ha.below h (Nat.le_refl _)
  have HB : Hid (∀ W', Below w.heap.size w W' → EvAt W' vb Z) := fun W' h => hb.below h (Nat.le_refl _)
  have HX : Hid (∀ p ∈ X, p.1.l.length < 4294967296) := hx
  have HY : Hid (∀ p ∈ Z, p.1.l.length < 4294967296) := hy
  obtain ⟨ada, capa, rfl⟩ := ha.form
  obtain ⟨adb, capb, rfl⟩ := hb.form
  clear ha hb hx hy
  by_cases hl : X.length = Z.length
  · have hf : ((X.length : Int) != (Z.length : Int)) = false := by rw [hl]; simp
    have HL : Hid (X.length = Z.length) := hl
    have hge : Z.length ≥ X.length ∧ X.length ≥ Z.length := by omega
    clear hl
    go_enter Tryd.func27, Tryd.ntmps27
    go_wp2_with fail
    go_loopw [5, 6] (fun v5 _ wr => ∃ k : Nat, v5 = .int .i64 k ∧ k ≤ X.length ∧ Hid (∀ j, j < k → (X.map Prod.fst)[j]? = (Z.map Prod.fst)[j]?) ∧ Below w.heap.size w wr) (fun v5 _ _ => X.length - (intOf v5).toNat)
    case atStart => exact ⟨0, rfl, by omega, fun j hj => absurd hj (by omega), Below.refl _ _⟩
    case round =>
      obtain ⟨k, rfl, hk, hh, hbr⟩ := hrel
      by_cases hlt : k < X.length
      · obtain ⟨p, hp⟩ : ∃ p, X[k]? = some p := ⟨_, List.getElem?_eq_getElem hlt⟩
        obtain ⟨q, hq⟩ : ∃ q, Z[k]? = some q := ⟨_, List.getElem?_eq_getElem (by omega)⟩
        have hbd : Below w.heap.size w wr.drew := hbr.drew
        obtain ⟨ga, oa, capa', hva, hga, x0, x1, x2, x3, x4⟩ := (HA.out _ hbd).at hp
        obtain ⟨gb, ob, capb', hvb, hgb, y0, y1, y2, y3, y4⟩ := (HB.out _ hbd).at hq
        cases hva
        cases hvb
        have HTP : Hid (Tx wr.drew p.2 p.1.l) := (HA.out _ hbd).2 p (List.mem_of_getElem? hp)
        have HTQ : Hid (Tx wr.drew q.2 q.1.l) := (HB.out _ hbd).2 q (List.mem_of_getElem? hq)
        have hpl := HX.out p (List.mem_of_getElem? hp)
        have hql := HY.out q (List.mem_of_getElem? hq)
        have HP : Hid _ := fst_at X k p hp
        have HQ : Hid _ := fst_at Z k q hq
        obtain ⟨⟨kx, nx, ax, bx, lx⟩, vx⟩ := p
        obtain ⟨⟨ky, ny, ay, bY, ly⟩, vy⟩ := q
        obtain ⟨adx, capx, hvx⟩ := HTP.out.form
        obtain rfl : vx = .slice adx lx.length capx := hvx
        obtain ⟨ady, capy, hvy⟩ := HTQ.out.form
        obtain rfl : vy = .slice ady ly.length capy := hvy
        clear hp hq hga hgb
        have hltb : k < Z.length := by omega
        have hki : (k : Int) < (X.length : Int) ∧ (k : Int) < (Z.length : Int) := by omega
        obtain ⟨sm, HSM⟩ : ∃ sm, Hid (sameE ⟨kx, nx, ax, bx, lx⟩ ⟨ky, ny, ay, bY, ly⟩ = sm) := ⟨_, rfl⟩
        cases sm with
        | true =>
          go_wp2_with fail
          refine wp_region_any (by kernel_rfl) ?_
          try (change wpAny _ _ _ _ _ _ _ (World.drew _))
          refine wpAny_take (i := 0) (v := .slice (some ⟨ga, oa, none⟩) X.length capa) rfl (by kernel_rfl) (by kernel_rfl) (by kernel_rfl) (fun _ _ _ h => h) (Or.inl ⟨by rfl, by intro wz; go_simp⟩) ?_
          try simp only [Act.put, List.getElem_toArray, List.getElem_cons_zero, List.setIfInBounds_toArray, List.set_cons_zero, List.set_cons_succ]
          refine wpAny_take (i := 1) (v := .int .i64 (k : Int)) rfl (by kernel_rfl) (by kernel_rfl) (by kernel_rfl) (fun _ _ _ h => h) (Or.inl ⟨by rfl, by intro wz; go_simp⟩) ?_
          try simp only [Act.put, List.getElem_toArray, List.getElem_cons_succ, List.getElem_cons_zero, List.setIfInBounds_toArray, List.set_cons_zero, List.set_cons_succ]
          refine wpAny_take (i := 2) (v := .pointer (some ⟨ga, oa + k * 5, none⟩)) rfl (by kernel_rfl) (by kernel_rfl) (by kernel_rfl) (fun _ _ _ h => h) (Or.inl ⟨by rfl, by intro wz; go_simp⟩) ?_
          try simp only [Act.put, List.getElem_toArray, List.getElem_cons_succ, List.getElem_cons_zero, List.setIfInBounds_toArray, List.set_cons_zero, List.set_cons_succ]
          refine wpAny_take (i := 4) (v := .slice (some ⟨gb, ob, none⟩) Z.length capb) rfl (by kernel_rfl) (by kernel_rfl) (by kernel_rfl) (fun _ _ _ h => h) (Or.inl ⟨by rfl, by intro wz; go_simp⟩) ?_
          try simp only [Act.put, List.getElem_toArray, List.getElem_cons_succ, List.getElem_cons_zero, List.setIfInBounds_toArray, List.set_cons_zero, List.set_cons_succ]
          refine wpAny_take (i := 5) (v := .int .i64 (k : Int)) rfl (by kernel_rfl) (by kernel_rfl) (by kernel_rfl) (fun _ _ _ h => h) (Or.inl ⟨by rfl, by intro wz; go_simp⟩) ?_
          try simp only [Act.put, List.getElem_toArray, List.getElem_cons_succ, List.getElem_cons_zero, List.setIfInBounds_toArray, List.set_cons_zero, List.set_cons_succ]
          refine wpAny_take (i := 6) (v := .pointer (some ⟨gb, ob + k * 5, none⟩)) rfl (by kernel_rfl) (by kernel_rfl) (by kernel_rfl) (fun _ _ _ h => h) (Or.inl ⟨by rfl, by intro wz; go_simp⟩) ?_
          try simp only [Act.put, List.getElem_toArray, List.getElem_cons_succ, List.getElem_cons_zero, List.setIfInBounds_toArray, List.set_cons_zero, List.set_cons_succ]
          refine wpAny_ready (rs := [3, 7]) (by kernel_rfl) (by simp) ?_
          refine AllReady.cons rfl (fun K hK => ?_) ?_
          · go_simp
            refine hK _ _ ?_
            clear hK K
            try simp only [Act.put, List.getElem_toArray, List.getElem_cons_succ, List.getElem_cons_zero, List.setIfInBounds_toArray, List.set_cons_zero, List.set_cons_succ]
            refine wpAny_ready (rs := [7]) (by kernel_rfl) (by simp) ?_
            refine AllReady.cons rfl (fun K hK => ?_) ?_
            · go_simp
              refine hK _ _ ?_
              clear hK K
              try simp only [Act.put, List.getElem_toArray, List.getElem_cons_succ, List.getElem_cons_zero, List.setIfInBounds_toArray, List.set_cons_zero, List.set_cons_succ]
              refine wpAny_ready (rs := [8]) (by kernel_rfl) (by simp) ?_
              refine AllReady.cons rfl (fun K hK => ?_) ?_
              · go_simp
                refine (sameEvent_any ⟨kx, nx, ax, bx, lx⟩ ⟨ky, ny, ay, bY, ly⟩ _ _ _ HTP.out HTQ.out hpl hql).mono ?_
                rintro e w2 ⟨rfl, hb2'⟩
                rw [HSM.out]
                have hb2 := hbd.trans (hb2'.mono hbd.size)
                refine hK _ _ ?_
                clear hK K
                try simp only [Act.put, List.getElem_toArray, List.getElem_cons_succ, List.getElem_cons_zero, List.setIfInBounds_toArray, List.set_cons_zero, List.set_cons_succ]
                refine wpAny_ready (rs := [9]) (by kernel_rfl) (by simp) ?_
                refine AllReady.cons rfl (fun K hK => ?_) ?_
                · go_simp
                  refine hK _ _ ?_
                  clear hK K
                  try simp only [Act.put, List.getElem_toArray, List.getElem_cons_succ, List.getElem_cons_zero, List.setIfInBounds_toArray, List.set_cons_zero, List.set_cons_succ]
                  refine wpAny_done (by kernel_rfl) ?_ _
                  go_wp2_with fail
                  refine ⟨⟨k + 1, by simp, by omega, ?_, hb2⟩, by simp [intOf]; omega⟩
                  intro j hj
                  by_cases hjk : j < k
                  · exact hh.out j hjk
                  · rw [show j = k by omega, HP.out, HQ.out, (sameE_iff _ _).1 HSM.out]
                exact AllReady.nil
              exact AllReady.nil
            exact AllReady.nil
          refine AllReady.cons rfl (fun K hK => ?_) ?_
          · go_simp
            refine hK _ _ ?_
            clear hK K
            try simp only [Act.put, List.getElem_toArray, List.getElem_cons_succ, List.getElem_cons_zero, List.setIfInBounds_toArray, List.set_cons_zero, List.set_cons_succ]
            refine wpAny_ready (rs := [3]) (by kernel_rfl) (by simp) ?_
            refine AllReady.cons rfl (fun K hK => ?_) ?_
            · go_simp
              refine hK _ _ ?_
              clear hK K
              try simp only [Act.put, List.getElem_toArray, List.getElem_cons_succ, List.getElem_cons_zero, List.setIfInBounds_toArray, List.set_cons_zero, List.set_cons_succ]
              refine wpAny_ready (rs := [8]) (by kernel_rfl) (by simp) ?_
              refine AllReady.cons rfl (fun K hK => ?_) ?_
              · go_simp
                refine (sameEvent_any ⟨kx, nx, ax, bx, lx⟩ ⟨ky, ny, ay, bY, ly⟩ _ _ _ HTP.out HTQ.out hpl hql).mono ?_
                rintro e w2 ⟨rfl, hb2'⟩
                rw [HSM.out]
                have hb2 := hbd.trans (hb2'.mono hbd.size)
                refine hK _ _ ?_
                clear hK K
                try simp only [Act.put, List.getElem_toArray, List.getElem_cons_succ, List.getElem_cons_zero, List.setIfInBounds_toArray, List.set_cons_zero, List.set_cons_succ]
                refine wpAny_ready (rs := [9]) (by kernel_rfl) (by simp) ?_
                refine AllReady.cons rfl (fun K hK => ?_) ?_
                · go_simp
                  refine hK _ _ ?_
                  clear hK K
                  try simp only [Act.put, List.getElem_toArray, List.getElem_cons_succ, List.getElem_cons_zero, List.setIfInBounds_toArray, List.set_cons_zero, List.set_cons_succ]
                  refine wpAny_done (by kernel_rfl) ?_ _
                  go_wp2_with fail
                  refine ⟨⟨k + 1, by simp, by omega, ?_, hb2⟩, by simp [intOf]; omega⟩
                  intro j hj
                  by_cases hjk : j < k
                  · exact hh.out j hjk
                  · rw [show j = k by omega, HP.out, HQ.out, (sameE_iff _ _).1 HSM.out]
                exact AllReady.nil
              exact AllReady.nil
            exact AllReady.nil
          exact AllReady.nil
        | false =>
          go_wp2_with fail
          refine wp_region_any (by kernel_rfl) ?_
          try (change wpAny _ _ _ _ _ _ _ (World.drew _))
          refine wpAny_take (i := 0) (v := .slice (some ⟨ga, oa, none⟩) X.length capa) rfl (by kernel_rfl) (by kernel_rfl) (by kernel_rfl) (fun _ _ _ h => h) (Or.inl ⟨by rfl, by intro wz; go_simp⟩) ?_
          try simp only [Act.put, List.getElem_toArray, List.getElem_cons_zero, List.setIfInBounds_toArray, List.set_cons_zero, List.set_cons_succ]
          refine wpAny_take (i := 1) (v := .int .i64 (k : Int)) rfl (by kernel_rfl) (by kernel_rfl) (by kernel_rfl) (fun _ _ _ h => h) (Or.inl ⟨by rfl, by intro wz; go_simp⟩) ?_
          try simp only [Act.put, List.getElem_toArray, List.getElem_cons_succ, List.getElem_cons_zero, List.setIfInBounds_toArray, List.set_cons_zero, List.set_cons_succ]
          refine wpAny_take (i := 2) (v := .pointer (some ⟨ga, oa + k * 5, none⟩)) rfl (by kernel_rfl) (by kernel_rfl) (by kernel_rfl) (fun _ _ _ h => h) (Or.inl ⟨by rfl, by intro wz; go_simp⟩) ?_
          try simp only [Act.put, List.getElem_toArray, List.getElem_cons_succ, List.getElem_cons_zero, List.setIfInBounds_toArray, List.set_cons_zero, List.set_cons_succ]
          refine wpAny_take (i := 4) (v := .slice (some ⟨gb, ob, none⟩) Z.length capb) rfl (by kernel_rfl) (by kernel_rfl) (by kernel_rfl) (fun _ _ _ h => h) (Or.inl ⟨by rfl, by intro wz; go_simp⟩) ?_
          try simp only [Act.put, List.getElem_toArray, List.getElem_cons_succ, List.getElem_cons_zero, List.setIfInBounds_toArray, List.set_cons_zero, List.set_cons_succ]
          refine wpAny_take (i := 5) (v := .int .i64 (k : Int)) rfl (by kernel_rfl) (by kernel_rfl) (by kernel_rfl) (fun _ _ _ h => h) (Or.inl ⟨by rfl, by intro wz; go_simp⟩) ?_
          try simp only [Act.put, List.getElem_toArray, List.getElem_cons_succ, List.getElem_cons_zero, List.setIfInBounds_toArray, List.set_cons_zero, List.set_cons_succ]
          refine wpAny_take (i := 6) (v := .pointer (some ⟨gb, ob + k * 5, none⟩)) rfl (by kernel_rfl) (by kernel_rfl) (by kernel_rfl) (fun _ _ _ h => h) (Or.inl ⟨by rfl, by intro wz; go_simp⟩) ?_
          try simp only [Act.put, List.getElem_toArray, List.getElem_cons_succ, List.getElem_cons_zero, List.setIfInBounds_toArray, List.set_cons_zero, List.set_cons_succ]
          refine wpAny_ready (rs := [3, 7]) (by kernel_rfl) (by simp) ?_
          refine AllReady.cons rfl (fun K hK => ?_) ?_
          · go_simp
            refine hK _ _ ?_
            clear hK K
            try simp only [Act.put, List.getElem_toArray, List.getElem_cons_succ, List.getElem_cons_zero, List.setIfInBounds_toArray, List.set_cons_zero, List.set_cons_succ]
            refine wpAny_ready (rs := [7]) (by kernel_rfl) (by simp) ?_
            refine AllReady.cons rfl (fun K hK => ?_) ?_
            · go_simp
              refine hK _ _ ?_
              clear hK K
              try simp only [Act.put, List.getElem_toArray, List.getElem_cons_succ, List.getElem_cons_zero, List.setIfInBounds_toArray, List.set_cons_zero, List.set_cons_succ]
              refine wpAny_ready (rs := [8]) (by kernel_rfl) (by simp) ?_
              refine AllReady.cons rfl (fun K hK => ?_) ?_
              · go_simp
                refine (sameEvent_any ⟨kx, nx, ax, bx, lx⟩ ⟨ky, ny, ay, bY, ly⟩ _ _ _ HTP.out HTQ.out hpl hql).mono ?_
                rintro e w2 ⟨rfl, hb2'⟩
                rw [HSM.out]
                have hb2 := hbd.trans (hb2'.mono hbd.size)
                refine hK _ _ ?_
                clear hK K
                try simp only [Act.put, List.getElem_toArray, List.getElem_cons_succ, List.getElem_cons_zero, List.setIfInBounds_toArray, List.set_cons_zero, List.set_cons_succ]
                refine wpAny_ready (rs := [9]) (by kernel_rfl) (by simp) ?_
                refine AllReady.cons rfl (fun K hK => ?_) ?_
                · go_simp
                  refine hK _ _ ?_
                  clear hK K
                  try simp only [Act.put, List.getElem_toArray, List.getElem_cons_succ, List.getElem_cons_zero, List.setIfInBounds_toArray, List.set_cons_zero, List.set_cons_succ]
                  refine wpAny_done (by kernel_rfl) ?_ _
                  go_wp2_with fail
                  go_ret
                  refine ⟨ret_bool (sameEs_false (fun e => ?_)).symm, hb2⟩
                  have h1 := HP.out
                  rw [e, HQ.out] at h1
                  have h2 := HSM.out
                  rw [(sameE_iff _ _).2 (Option.some.inj h1).symm] at h2
                  cases h2
                exact AllReady.nil
              exact AllReady.nil
            exact AllReady.nil
          refine AllReady.cons rfl (fun K hK => ?_) ?_
          · go_simp
            refine hK _ _ ?_
            clear hK K
            try simp only [Act.put, List.getElem_toArray, List.getElem_cons_succ, List.getElem_cons_zero, List.setIfInBounds_toArray, List.set_cons_zero, List.set_cons_succ]
            refine wpAny_ready (rs := [3]) (by kernel_rfl) (by simp) ?_
            refine AllReady.cons rfl (fun K hK => ?_) ?_
            · go_simp
              refine hK _ _ ?_
              clear hK K
              try simp only [Act.put, List.getElem_toArray, List.getElem_cons_succ, List.getElem_cons_zero, List.setIfInBounds_toArray, List.set_cons_zero, List.set_cons_succ]
              refine wpAny_ready (rs := [8]) (by kernel_rfl) (by simp) ?_
              refine AllReady.cons rfl (fun K hK => ?_) ?_
              · go_simp
                refine (sameEvent_any ⟨kx, nx, ax, bx, lx⟩ ⟨ky, ny, ay, bY, ly⟩ _ _ _ HTP.out HTQ.out hpl hql).mono ?_
                rintro e w2 ⟨rfl, hb2'⟩
                rw [HSM.out]
                have hb2 := hbd.trans (hb2'.mono hbd.size)
                refine hK _ _ ?_
                clear hK K
                try simp only [Act.put, List.getElem_toArray, List.getElem_cons_succ, List.getElem_cons_zero, List.setIfInBounds_toArray, List.set_cons_zero, List.set_cons_succ]
                refine wpAny_ready (rs := [9]) (by kernel_rfl) (by simp) ?_
                refine AllReady.cons rfl (fun K hK => ?_) ?_
                · go_simp
                  refine hK _ _ ?_
                  clear hK K
                  try simp only [Act.put, List.getElem_toArray, List.getElem_cons_succ, List.getElem_cons_zero, List.setIfInBounds_toArray, List.set_cons_zero, List.set_cons_succ]
                  refine wpAny_done (by kernel_rfl) ?_ _
                  go_wp2_with fail
                  go_ret
                  refine ⟨ret_bool (sameEs_false (fun e => ?_)).symm, hb2⟩
                  have h1 := HP.out
                  rw [e, HQ.out] at h1
                  have h2 := HSM.out
                  rw [(sameE_iff _ _).2 (Option.some.inj h1).symm] at h2
                  cases h2
                exact AllReady.nil
              exact AllReady.nil
            exact AllReady.nil
          exact AllReady.nil
      · go_wp2_with fail
        go_ret
        refine ⟨ret_bool (sameEs_true (evs_ext _ _ k (by rw [List.length_map, List.length_map]; exact HL.out) hh.out (by rw [List.length_map]; omega))).symm, hbr⟩
  · have hf : ((X.length : Int) != (Z.length : Int)) = true := by simp; omega
    go_enter Tryd.func27, Tryd.ntmps27
    go_wp2_with fail
    go_ret
    exact ⟨ret_bool (sameEs_false (fun e => hl (by have := congrArg List.length e; rw [List.length_map, List.length_map] at this; exact this))).symm, Below.refl _ _⟩
end Go.Proofs.YthhghkjgffcpeaaDoor
