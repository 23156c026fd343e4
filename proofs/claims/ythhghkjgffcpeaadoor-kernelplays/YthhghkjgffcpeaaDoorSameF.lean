/- Files in memory, and whether they are the same. -/
import Derived.Test.YthhghkjgffcpeaaDoorSames
namespace Go.Proofs.YthhghkjgffcpeaaDoor
open Go.RowKit

abbrev flL (F : Fls) : List (List Value) := F.map fun p => [str p.1, str p.2]
/-- Files in memory, to be read. -/
def FlAt (W : World) (v : Value) (F : Fls) : Prop := RowAt W v 2 (flL F)
theorem FlAt.form {W : World} {v : Value} {F : Fls} (h : FlAt W v F) : ∃ ad cap, v = .slice ad F.length cap := by
  obtain ⟨ad, cap, hv⟩ := RowAt.form h
  exact ⟨ad, cap, by rw [hv]; simp⟩
theorem FlAt.below {W W' : World} {v : Value} {F : Fls} {B : Nat} (h : FlAt W v F) (hb : Below B W W') (hB : W.heap.size ≤ B) : FlAt W' v F := RowAt.below h hb hB
theorem FlAt.at {W : World} {v : Value} {F : Fls} (h : FlAt W v F) {j : Nat} {p : Txt × Txt} (hj : F[j]? = some p) : ∃ g o cap, v = .slice (some ⟨g, o, none⟩) F.length cap ∧ F.length ≤ cap ∧ g < W.heap.size ∧
    W.cell? ⟨g, o + j * 2, none⟩ = some (str p.1) ∧ W.cell? ⟨g, o + j * 2 + 1, none⟩ = some (str p.2) := by
  rcases h with ⟨h0, _⟩ | ⟨g, o, cap, h1, h2, h3, h4⟩
  · have : F = [] := by simpa using h0
    rw [this] at hj
    simp at hj
  · have hc := h4 j [str p.1, str p.2] (by rw [List.getElem?_map, hj]; rfl)
    exact ⟨g, o, cap, by simpa using h1, by simpa using h2, h3, hc 0 _ rfl, hc 1 _ rfl⟩

set_option maxHeartbeats 2000000 in
theorem sameFile_any (x y : Txt × Txt) (w : World) :
    Calls Tryd.prog 57 #[.agg #[str x.1, str x.2], .agg #[str y.1, str y.2]] w fun e w' => e = .returned (.bool (x == y)) ∧ Below w.heap.size w w' := by
  obtain ⟨a, b⟩ := x
  obtain ⟨c, d⟩ := y
  have hb2 : Below w.heap.size w ((w.alloc (.cells #[str a, str b] 73)).alloc (.cells #[str c, str d] 73)) := (below_new w _).alloc (below_new w _).size _
  have HB : Hid _ := hb2
  clear hb2
  cases h0 : (a == c) with
  | false =>
    go_enter Tryd.func57, Tryd.ntmps57
    go_wp2_with fail
    go_ret
    exact ⟨ret_bool (by rw [show ((a, b) == (c, d)) = (a == c && b == d) from rfl, h0]; rfl), HB.out⟩
  | true =>
    go_enter Tryd.func57, Tryd.ntmps57
    go_wp2_with fail
    go_ret
    exact ⟨ret_bool (by rw [show ((a, b) == (c, d)) = (a == c && b == d) from rfl, h0]; rfl), HB.out⟩
theorem fls_ext (A B : Fls) (k : Nat) (hl : A.length = B.length) (h : ∀ j, j < k → A[j]? = B[j]?) (hk : k = A.length) : A = B := by
  apply List.ext_getElem?
  intro j
  by_cases hj : j < k
  · exact h j hj
  · rw [List.getElem?_eq_none (by omega), List.getElem?_eq_none (by omega)]

set_option maxRecDepth 100000 in
set_option maxHeartbeats 4000000 in
theorem sameFiles_any (va vb : Value) (X Z : Fls) (w : World) (ha : FlAt w va X) (hb : FlAt w vb Z) (hlx : X.length < 4294967296) (_hly : Z.length < 4294967296) :
    Calls Tryd.prog 29 #[va, vb] w fun e w' => e = .returned (.bool (decide (X = Z))) ∧ Below w.heap.size w w' := by
  have HA : Hid (∀ W', Below w.heap.size w W' → FlAt W' va X) := fun W' h => ha.below h (Nat.le_refl _)
  have HB : Hid (∀ W', Below w.heap.size w W' → FlAt W' vb Z) := fun W' h => hb.below h (Nat.le_refl _)
  obtain ⟨ada, capa, rfl⟩ := ha.form
  obtain ⟨adb, capb, rfl⟩ := hb.form
  clear ha hb
  by_cases hl : X.length = Z.length
  · have hf : ((X.length : Int) != (Z.length : Int)) = false := by rw [hl]; simp
    have HL : Hid (X.length = Z.length) := hl
    have hge : Z.length ≥ X.length ∧ X.length ≥ Z.length := by omega
    clear hl
    go_enter Tryd.func29, Tryd.ntmps29
    go_wp2_with fail
    go_loopw [5, 6] (fun v5 _ wr => ∃ k : Nat, v5 = .int .i64 k ∧ k ≤ X.length ∧ Hid (∀ j, j < k → X[j]? = Z[j]?) ∧ Below w.heap.size w wr) (fun v5 _ _ => X.length - (intOf v5).toNat)
    case atStart => exact ⟨0, rfl, by omega, fun j hj => absurd hj (by omega), Below.refl _ _⟩
    case round =>
      obtain ⟨k, rfl, hk, hh, hbr⟩ := hrel
      by_cases hlt : k < X.length
      · obtain ⟨p, hp⟩ : ∃ p, X[k]? = some p := ⟨_, List.getElem?_eq_getElem hlt⟩
        obtain ⟨q, hq⟩ : ∃ q, Z[k]? = some q := ⟨_, List.getElem?_eq_getElem (by omega)⟩
        have hbd : Below w.heap.size w wr.drew := hbr.drew
        obtain ⟨ga, oa, capa', hva, _, hga, x0, x1⟩ := (HA.out _ hbd).at hp
        obtain ⟨gb, ob, capb', hvb, _, hgb, y0, y1⟩ := (HB.out _ hbd).at hq
        cases hva
        cases hvb
        have HP : Hid (X[k]? = some p) := hp
        have HQ : Hid (Z[k]? = some q) := hq
        clear hp hq hga hgb
        have hltb : k < Z.length := by omega
        have hki : (k : Int) < (X.length : Int) ∧ (k : Int) < (Z.length : Int) := by omega
        obtain ⟨sm, HSM⟩ : ∃ sm, Hid ((p == q) = sm) := ⟨_, rfl⟩
        cases sm with
        | true =>
          go_wp2_with fail
          refine wp_region_any (by kernel_rfl) ?_
          try (change wpAny _ _ _ _ _ _ _ (World.drew _))
          refine wpAny_take (i := 0) (v := .slice (some ⟨ga, oa, none⟩) X.length capa) rfl (by kernel_rfl) (by kernel_rfl) (by kernel_rfl) (fun _ _ _ h => h) (Or.inl ⟨by rfl, by intro wz; go_simp⟩) ?_
          try simp only [Act.put, List.getElem_toArray, List.getElem_cons_zero, List.setIfInBounds_toArray, List.set_cons_zero, List.set_cons_succ]
          refine wpAny_take (i := 1) (v := .int .i64 (k : Int)) rfl (by kernel_rfl) (by kernel_rfl) (by kernel_rfl) (fun _ _ _ h => h) (Or.inl ⟨by rfl, by intro wz; go_simp⟩) ?_
          try simp only [Act.put, List.getElem_toArray, List.getElem_cons_succ, List.getElem_cons_zero, List.setIfInBounds_toArray, List.set_cons_zero, List.set_cons_succ]
          refine wpAny_take (i := 2) (v := .pointer (some ⟨ga, oa + k * 2, none⟩)) rfl (by kernel_rfl) (by kernel_rfl) (by kernel_rfl) (fun _ _ _ h => h) (Or.inl ⟨by rfl, by intro wz; go_simp⟩) ?_
          try simp only [Act.put, List.getElem_toArray, List.getElem_cons_succ, List.getElem_cons_zero, List.setIfInBounds_toArray, List.set_cons_zero, List.set_cons_succ]
          refine wpAny_take (i := 4) (v := .slice (some ⟨gb, ob, none⟩) Z.length capb) rfl (by kernel_rfl) (by kernel_rfl) (by kernel_rfl) (fun _ _ _ h => h) (Or.inl ⟨by rfl, by intro wz; go_simp⟩) ?_
          try simp only [Act.put, List.getElem_toArray, List.getElem_cons_succ, List.getElem_cons_zero, List.setIfInBounds_toArray, List.set_cons_zero, List.set_cons_succ]
          refine wpAny_take (i := 5) (v := .int .i64 (k : Int)) rfl (by kernel_rfl) (by kernel_rfl) (by kernel_rfl) (fun _ _ _ h => h) (Or.inl ⟨by rfl, by intro wz; go_simp⟩) ?_
          try simp only [Act.put, List.getElem_toArray, List.getElem_cons_succ, List.getElem_cons_zero, List.setIfInBounds_toArray, List.set_cons_zero, List.set_cons_succ]
          refine wpAny_take (i := 6) (v := .pointer (some ⟨gb, ob + k * 2, none⟩)) rfl (by kernel_rfl) (by kernel_rfl) (by kernel_rfl) (fun _ _ _ h => h) (Or.inl ⟨by rfl, by intro wz; go_simp⟩) ?_
          try simp only [Act.put, List.getElem_toArray, List.getElem_cons_succ, List.getElem_cons_zero, List.setIfInBounds_toArray, List.set_cons_zero, List.set_cons_succ]
          refine wpAny_ready (rs := [3, 7]) (by kernel_rfl) (by simp) ?_
          refine AllReady.cons rfl (fun K hK => ?_) ?_
          · go_simp
            refine hK _ _ ?_
            clear hK K
            try simp only [Act.put, List.getElem_toArray, List.getElem_cons_succ, List.getElem_cons_zero, List.setIfInBounds_toArray, List.set_cons_zero, List.set_cons_succ]
            refine wpAny_ready (rs := [7]) (by kernel_rfl) (by simp) ?_
            refine AllReady.cons rfl (fun K hK => ?_) ?_
            · go_simp
              refine hK _ _ ?_
              clear hK K
              try simp only [Act.put, List.getElem_toArray, List.getElem_cons_succ, List.getElem_cons_zero, List.setIfInBounds_toArray, List.set_cons_zero, List.set_cons_succ]
              refine wpAny_ready (rs := [8]) (by kernel_rfl) (by simp) ?_
              refine AllReady.cons rfl (fun K hK => ?_) ?_
              · go_simp
                refine (sameFile_any p q _).mono ?_
                rintro e w2 ⟨rfl, hb2'⟩
                rw [HSM.out]
                have hb2 := hbd.trans (hb2'.mono hbd.size)
                refine hK _ _ ?_
                clear hK K
                try simp only [Act.put, List.getElem_toArray, List.getElem_cons_succ, List.getElem_cons_zero, List.setIfInBounds_toArray, List.set_cons_zero, List.set_cons_succ]
                refine wpAny_ready (rs := [9]) (by kernel_rfl) (by simp) ?_
                refine AllReady.cons rfl (fun K hK => ?_) ?_
                · go_simp
                  refine hK _ _ ?_
                  clear hK K
                  try simp only [Act.put, List.getElem_toArray, List.getElem_cons_succ, List.getElem_cons_zero, List.setIfInBounds_toArray, List.set_cons_zero, List.set_cons_succ]
                  refine wpAny_done (by kernel_rfl) ?_ _
                  go_wp2_with fail
                  refine ⟨⟨k + 1, by simp, by omega, ?_, hb2⟩, by simp [intOf]; omega⟩
                  intro j hj
                  by_cases hjk : j < k
                  · exact hh.out j hjk
                  · rw [show j = k by omega, HP.out, HQ.out, beq_iff_eq.1 HSM.out]
                exact AllReady.nil
              exact AllReady.nil
            exact AllReady.nil
          refine AllReady.cons rfl (fun K hK => ?_) ?_
          · go_simp
            refine hK _ _ ?_
            clear hK K
            try simp only [Act.put, List.getElem_toArray, List.getElem_cons_succ, List.getElem_cons_zero, List.setIfInBounds_toArray, List.set_cons_zero, List.set_cons_succ]
            refine wpAny_ready (rs := [3]) (by kernel_rfl) (by simp) ?_
            refine AllReady.cons rfl (fun K hK => ?_) ?_
            · go_simp
              refine hK _ _ ?_
              clear hK K
              try simp only [Act.put, List.getElem_toArray, List.getElem_cons_succ, List.getElem_cons_zero, List.setIfInBounds_toArray, List.set_cons_zero, List.set_cons_succ]
              refine wpAny_ready (rs := [8]) (by kernel_rfl) (by simp) ?_
              refine AllReady.cons rfl (fun K hK => ?_) ?_
              · go_simp
                refine (sameFile_any p q _).mono ?_
                rintro e w2 ⟨rfl, hb2'⟩
                rw [HSM.out]
                have hb2 := hbd.trans (hb2'.mono hbd.size)
                refine hK _ _ ?_
                clear hK K
                try simp only [Act.put, List.getElem_toArray, List.getElem_cons_succ, List.getElem_cons_zero, List.setIfInBounds_toArray, List.set_cons_zero, List.set_cons_succ]
                refine wpAny_ready (rs := [9]) (by kernel_rfl) (by simp) ?_
                refine AllReady.cons rfl (fun K hK => ?_) ?_
                · go_simp
                  refine hK _ _ ?_
                  clear hK K
                  try simp only [Act.put, List.getElem_toArray, List.getElem_cons_succ, List.getElem_cons_zero, List.setIfInBounds_toArray, List.set_cons_zero, List.set_cons_succ]
                  refine wpAny_done (by kernel_rfl) ?_ _
                  go_wp2_with fail
                  refine ⟨⟨k + 1, by simp, by omega, ?_, hb2⟩, by simp [intOf]; omega⟩
                  intro j hj
                  by_cases hjk : j < k
                  · exact hh.out j hjk
                  · rw [show j = k by omega, HP.out, HQ.out, beq_iff_eq.1 HSM.out]
                exact AllReady.nil
              exact AllReady.nil
            exact AllReady.nil
          exact AllReady.nil
        | false =>
          go_wp2_with fail
          refine wp_region_any (by kernel_rfl) ?_
          try (change wpAny _ _ _ _ _ _ _ (World.drew _))
          refine wpAny_take (i := 0) (v := .slice (some ⟨ga, oa, none⟩) X.length capa) rfl (by kernel_rfl) (by kernel_rfl) (by kernel_rfl) (fun _ _ _ h => h) (Or.inl ⟨by rfl, by intro wz; go_simp⟩) ?_
          try simp only [Act.put, List.getElem_toArray, List.getElem_cons_zero, List.setIfInBounds_toArray, List.set_cons_zero, List.set_cons_succ]
          refine wpAny_take (i := 1) (v := .int .i64 (k : Int)) rfl (by kernel_rfl) (by kernel_rfl) (by kernel_rfl) (fun _ _ _ h => h) (Or.inl ⟨by rfl, by intro wz; go_simp⟩) ?_
          try simp only [Act.put, List.getElem_toArray, List.getElem_cons_succ, List.getElem_cons_zero, List.setIfInBounds_toArray, List.set_cons_zero, List.set_cons_succ]
          refine wpAny_take (i := 2) (v := .pointer (some ⟨ga, oa + k * 2, none⟩)) rfl (by kernel_rfl) (by kernel_rfl) (by kernel_rfl) (fun _ _ _ h => h) (Or.inl ⟨by rfl, by intro wz; go_simp⟩) ?_
          try simp only [Act.put, List.getElem_toArray, List.getElem_cons_succ, List.getElem_cons_zero, List.setIfInBounds_toArray, List.set_cons_zero, List.set_cons_succ]
          refine wpAny_take (i := 4) (v := .slice (some ⟨gb, ob, none⟩) Z.length capb) rfl (by kernel_rfl) (by kernel_rfl) (by kernel_rfl) (fun _ _ _ h => h) (Or.inl ⟨by rfl, by intro wz; go_simp⟩) ?_
          try simp only [Act.put, List.getElem_toArray, List.getElem_cons_succ, List.getElem_cons_zero, List.setIfInBounds_toArray, List.set_cons_zero, List.set_cons_succ]
          refine wpAny_take (i := 5) (v := .int .i64 (k : Int)) rfl (by kernel_rfl) (by kernel_rfl) (by kernel_rfl) (fun _ _ _ h => h) (Or.inl ⟨by rfl, by intro wz; go_simp⟩) ?_
          try simp only [Act.put, List.getElem_toArray, List.getElem_cons_succ, List.getElem_cons_zero, List.setIfInBounds_toArray, List.set_cons_zero, List.set_cons_succ]
          refine wpAny_take (i := 6) (v := .pointer (some ⟨gb, ob + k * 2, none⟩)) rfl (by kernel_rfl) (by kernel_rfl) (by kernel_rfl) (fun _ _ _ h => h) (Or.inl ⟨by rfl, by intro wz; go_simp⟩) ?_
          try simp only [Act.put, List.getElem_toArray, List.getElem_cons_succ, List.getElem_cons_zero, List.setIfInBounds_toArray, List.set_cons_zero, List.set_cons_succ]
          refine wpAny_ready (rs := [3, 7]) (by kernel_rfl) (by simp) ?_
          refine AllReady.cons rfl (fun K hK => ?_) ?_
          · go_simp
            refine hK _ _ ?_
            clear hK K
            try simp only [Act.put, List.getElem_toArray, List.getElem_cons_succ, List.getElem_cons_zero, List.setIfInBounds_toArray, List.set_cons_zero, List.set_cons_succ]
            refine wpAny_ready (rs := [7]) (by kernel_rfl) (by simp) ?_
            refine AllReady.cons rfl (fun K hK => ?_) ?_
            · go_simp
              refine hK _ _ ?_
              clear hK K
              try simp only [Act.put, List.getElem_toArray, List.getElem_cons_succ, List.getElem_cons_zero, List.setIfInBounds_toArray, List.set_cons_zero, List.set_cons_succ]
              refine wpAny_ready (rs := [8]) (by kernel_rfl) (by simp) ?_
              refine AllReady.cons rfl (fun K hK => ?_) ?_
              · go_simp
                refine (sameFile_any p q _).mono ?_
                rintro e w2 ⟨rfl, hb2'⟩
                rw [HSM.out]
                have hb2 := hbd.trans (hb2'.mono hbd.size)
                refine hK _ _ ?_
                clear hK K
                try simp only [Act.put, List.getElem_toArray, List.getElem_cons_succ, List.getElem_cons_zero, List.setIfInBounds_toArray, List.set_cons_zero, List.set_cons_succ]
                refine wpAny_ready (rs := [9]) (by kernel_rfl) (by simp) ?_
                refine AllReady.cons rfl (fun K hK => ?_) ?_
                · go_simp
                  refine hK _ _ ?_
                  clear hK K
                  try simp only [Act.put, List.getElem_toArray, List.getElem_cons_succ, List.getElem_cons_zero, List.setIfInBounds_toArray, List.set_cons_zero, List.set_cons_succ]
                  refine wpAny_done (by kernel_rfl) ?_ _
                  go_wp2_with fail
                  go_ret
                  refine ⟨ret_bool (decide_eq_false (fun e => ?_)).symm, hb2⟩
                  have h1 := HP.out
                  rw [e, HQ.out] at h1
                  have h2 := HSM.out
                  rw [beq_iff_eq.2 (Option.some.inj h1).symm] at h2
                  cases h2
                exact AllReady.nil
              exact AllReady.nil
            exact AllReady.nil
          refine AllReady.cons rfl (fun K hK => ?_) ?_
          · go_simp
            refine hK _ _ ?_
            clear hK K
            try simp only [Act.put, List.getElem_toArray, List.getElem_cons_succ, List.getElem_cons_zero, List.setIfInBounds_toArray, List.set_cons_zero, List.set_cons_succ]
            refine wpAny_ready (rs := [3]) (by kernel_rfl) (by simp) ?_
            refine AllReady.cons rfl (fun K hK => ?_) ?_
            · go_simp
              refine hK _ _ ?_
              clear hK K
              try simp only [Act.put, List.getElem_toArray, List.getElem_cons_succ, List.getElem_cons_zero, List.setIfInBounds_toArray, List.set_cons_zero, List.set_cons_succ]
              refine wpAny_ready (rs := [8]) (by kernel_rfl) (by simp) ?_
              refine AllReady.cons rfl (fun K hK => ?_) ?_
              · go_simp
                refine (sameFile_any p q _).mono ?_
                rintro e w2 ⟨rfl, hb2'⟩
                rw [HSM.out]
                have hb2 := hbd.trans (hb2'.mono hbd.size)
                refine hK _ _ ?_
                clear hK K
                try simp only [Act.put, List.getElem_toArray, List.getElem_cons_succ, List.getElem_cons_zero, List.setIfInBounds_toArray, List.set_cons_zero, List.set_cons_succ]
                refine wpAny_ready (rs := [9]) (by kernel_rfl) (by simp) ?_
                refine AllReady.cons rfl (fun K hK => ?_) ?_
                · go_simp
                  refine hK _ _ ?_
                  clear hK K
                  try simp only [Act.put, List.getElem_toArray, List.getElem_cons_succ, List.getElem_cons_zero, List.setIfInBounds_toArray, List.set_cons_zero, List.set_cons_succ]
                  refine wpAny_done (by kernel_rfl) ?_ _
                  go_wp2_with fail
                  go_ret
                  refine ⟨ret_bool (decide_eq_false (fun e => ?_)).symm, hb2⟩
                  have h1 := HP.out
                  rw [e, HQ.out] at h1
                  have h2 := HSM.out
                  rw [beq_iff_eq.2 (Option.some.inj h1).symm] at h2
                  cases h2
                exact AllReady.nil
              exact AllReady.nil
            exact AllReady.nil
          exact AllReady.nil
      · go_wp2_with fail
        go_ret
        refine ⟨ret_bool (decide_eq_true (fls_ext _ _ k HL.out hh.out (by omega))).symm, hbr⟩
  · have hf : ((X.length : Int) != (Z.length : Int)) = true := by simp; omega
    go_enter Tryd.func29, Tryd.ntmps29
    go_wp2_with fail
    go_ret
    exact ⟨ret_bool (decide_eq_false (fun e => hl (by rw [e]))).symm, Below.refl _ _⟩
end Go.Proofs.YthhghkjgffcpeaaDoor
