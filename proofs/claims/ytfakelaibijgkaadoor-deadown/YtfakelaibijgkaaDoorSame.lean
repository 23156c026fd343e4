/- Are two lists of nodes the same. -/
import Derived.Test.YtfakelaibijgkaaDoorText
import Derived.Deep.Cut
namespace Go.Proofs.YtfakelaibijgkaaDoor
open Go.RowKit
attribute [local go_sem] Oper.semAt_some

def sameN (x y : Nd) : Bool := x.kind == y.kind && x.n == y.n && x.k == y.k && x.size == y.size && x.s == y.s
theorem sameN_iff (x y : Nd) : sameN x y = true ↔ x = y := by
  obtain ⟨a, b, c, d, e⟩ := x
  obtain ⟨a', b', c', d', e'⟩ := y
  simp [sameN, and_assoc]
def sameNs : List Nd → List Nd → Bool
  | [], [] => true
  | x :: A, y :: B => sameN x y && sameNs A B
  | _, _ => false
theorem sameNs_iff : ∀ A B : List Nd, sameNs A B = true ↔ A = B
  | [], [] => by simp [sameNs]
  | [], _ :: _ => by simp [sameNs]
  | _ :: _, [] => by simp [sameNs]
  | x :: A, y :: B => by simp [sameNs, sameN_iff, sameNs_iff A B]
theorem sameNs_true {A B : List Nd} (h : A = B) : sameNs A B = true := (sameNs_iff A B).2 h
theorem sameNs_false {A B : List Nd} (h : ¬ A = B) : sameNs A B = false := by
  cases e : sameNs A B
  · rfl
  · exact absurd ((sameNs_iff A B).1 e) h
set_option maxHeartbeats 2000000 in
theorem sameNode_any (x y : Nd) (w : World) : Calls Tryd.prog 22 #[ndV x, ndV y] w fun e w' => e = .returned (.bool (sameN x y)) ∧ Below w.heap.size w w' := by
  obtain ⟨kx, nx, cx, zx, sx⟩ := x
  obtain ⟨ky, ny, cy, zy, sy⟩ := y
  obtain ⟨wa, hwa⟩ : ∃ wa, wa = (w.alloc (.cells #[.int .i64 kx, .int .i64 nx, .int .i64 cx, .int .i64 zx, str sx] 26)).alloc (.cells #[.int .i64 ky, .int .i64 ny, .int .i64 cy, .int .i64 zy, str sy] 26) := ⟨_, rfl⟩
  have hb : Below w.heap.size w wa := by rw [hwa]; exact (below_new w _).alloc (below_new w _).size _
  have C1 : Cel wa w.heap.size 26 #[.int .i64 kx, .int .i64 nx, .int .i64 cx, .int .i64 zx, str sx] := by
    rw [hwa]
    exact (Cel.new w 26 _).turn (Turn.ofBelow (S := fun _ => False) (below_new _ _)) (fun h => h)
  have C2 : Cel wa (w.heap.size + 1) 26 #[.int .i64 ky, .int .i64 ny, .int .i64 cy, .int .i64 zy, str sy] := by
    rw [hwa, show w.heap.size + 1 = (w.alloc (.cells #[.int .i64 kx, .int .i64 nx, .int .i64 cx, .int .i64 zx, str sx] 26)).heap.size by simp]
    exact Cel.new _ 26 _
  go_enter Tryd.func22, Tryd.ntmps22
  go_upto_region 1 with fail
  rw [← hwa]
  have x0 := C1.cell 0
  have x1 := C1.cell 1
  have x2 := C1.cell 2
  have x3 := C1.cell 3
  have x4 := C1.cell 4
  have y0 := C2.cell 0
  have y1 := C2.cell 1
  have y2 := C2.cell 2
  have y3 := C2.cell 3
  have y4 := C2.cell 4
  clear C1 C2 hwa
  cases h0 : (kx == ky) with
  | false =>
    go_wp2_with fail
    go_ret
    exact ⟨ret_bool (by simp only [sameN, h0, Bool.false_and]), hb⟩
  | true =>
    cases h1 : (nx == ny) with
    | false =>
      go_wp2_with fail
      go_ret
      exact ⟨ret_bool (by simp only [sameN, h0, h1, Bool.false_and, Bool.true_and]), hb⟩
    | true =>
      cases h2 : (cx == cy) with
      | false =>
        go_wp2_with fail
        go_ret
        exact ⟨ret_bool (by simp only [sameN, h0, h1, h2, Bool.false_and, Bool.true_and]), hb⟩
      | true =>
        cases h3 : (zx == zy) with
        | false =>
          go_wp2_with fail
          go_ret
          exact ⟨ret_bool (by simp only [sameN, h0, h1, h2, h3, Bool.false_and, Bool.true_and]), hb⟩
        | true =>
          cases h4 : (sx == sy) with
          | false =>
            go_wp2_with fail
            go_ret
            exact ⟨ret_bool (by simp only [sameN, h0, h1, h2, h3, h4, Bool.true_and]), hb⟩
          | true =>
            go_wp2_with fail
            go_ret
            exact ⟨ret_bool (by simp only [sameN, h0, h1, h2, h3, h4, Bool.true_and]), hb⟩
theorem nds_ext (A B : List Nd) (k : Nat) (hl : A.length = B.length) (h : ∀ j, j < k → A[j]? = B[j]?) (hk : k = A.length) : A = B := by
  apply List.ext_getElem?
  intro j
  by_cases hj : j < k
  · exact h j hj
  · rw [List.getElem?_eq_none (by omega), List.getElem?_eq_none (by omega)]

set_option maxRecDepth 100000 in
set_option maxHeartbeats 4000000 in
theorem sameNodes_any (va vb : Value) (X Z : List Nd) (w : World) (ha : NdAt w va X) (hb : NdAt w vb Z) (hlx : X.length < 140737488355328) :
    Calls Tryd.prog 10 #[va, vb] w fun e w' => e = .returned (.bool (sameNs X Z)) ∧ Below w.heap.size w w' := by
  have HA : Hid (∀ W', Below w.heap.size w W' → NdAt W' va X) := fun W' h => ha.below h (Nat.le_refl _)
  have HB : Hid (∀ W', Below w.heap.size w W' → NdAt W' vb Z) := fun W' h => hb.below h (Nat.le_refl _)
  obtain ⟨ada, capa, rfl⟩ := ha.form
  obtain ⟨adb, capb, rfl⟩ := hb.form
  clear ha hb
  by_cases hl : X.length = Z.length
  · have hf : ((X.length : Int) != (Z.length : Int)) = false := by rw [hl]; simp
    have HL : Hid (X.length = Z.length) := hl
    have hge : Z.length ≥ X.length ∧ X.length ≥ Z.length := by omega
    clear hl
    go_enter Tryd.func10, Tryd.ntmps10
    go_wp2_with fail
    go_loopw [5, 6] (fun v5 _ wr => ∃ k : Nat, v5 = .int .i64 k ∧ k ≤ X.length ∧ Hid (∀ j, j < k → X[j]? = Z[j]?) ∧ Below w.heap.size w wr) (fun v5 _ _ => X.length - (intOf v5).toNat)
    case atStart => exact ⟨0, rfl, by omega, fun j hj => absurd hj (by omega), Below.refl _ _⟩
    case round =>
      obtain ⟨k, rfl, hk, hh, hbr⟩ := hrel
      by_cases hlt : k < X.length
      · obtain ⟨p, hp⟩ : ∃ p, X[k]? = some p := ⟨_, List.getElem?_eq_getElem hlt⟩
        obtain ⟨q, hq⟩ : ∃ q, Z[k]? = some q := ⟨_, List.getElem?_eq_getElem (by omega)⟩
        have hbd : Below w.heap.size w wr.drew := hbr.drew
        obtain ⟨ga, oa, capa', hva, hga, x0, x1, x2, x3, x4⟩ := (HA.out _ hbd).at hp
        obtain ⟨gb, ob, capb', hvb, hgb, y0, y1, y2, y3, y4⟩ := (HB.out _ hbd).at hq
        cases hva
        cases hvb
        have HP : Hid (X[k]? = some p) := hp
        have HQ : Hid (Z[k]? = some q) := hq
        obtain ⟨kx, nx, cx, zx, sx⟩ := p
        obtain ⟨ky, ny, cy, zy, sy⟩ := q
        clear hp hq hga hgb
        have hltb : k < Z.length := by omega
        have hki : (k : Int) < (X.length : Int) ∧ (k : Int) < (Z.length : Int) := by omega
        obtain ⟨sm, HSM⟩ : ∃ sm, Hid (sameN ⟨kx, nx, cx, zx, sx⟩ ⟨ky, ny, cy, zy, sy⟩ = sm) := ⟨_, rfl⟩
        cases sm with
        | true =>
          go_wp2_with fail
          refine wp_region_any (by kernel_rfl) ?_
          try (change wpAny _ _ _ _ _ _ _ (World.drew _))
          refine wpAny_take (i := 0) (v := .slice (some ⟨ga, oa, none⟩) X.length capa) rfl (by kernel_rfl) (by kernel_rfl) (by kernel_rfl) (fun _ _ _ h => h) (Or.inl ⟨by rfl, by intro wz; go_simp⟩) ?_
          try simp only [Act.put, List.getElem_toArray, List.getElem_cons_zero, List.setIfInBounds_toArray, List.set_cons_zero, List.set_cons_succ]
          refine wpAny_take (i := 1) (v := .int .i64 (k : Int)) rfl (by kernel_rfl) (by kernel_rfl) (by kernel_rfl) (fun _ _ _ h => h) (Or.inl ⟨by rfl, by intro wz; go_simp⟩) ?_
          try simp only [Act.put, List.getElem_toArray, List.getElem_cons_succ, List.getElem_cons_zero, List.setIfInBounds_toArray, List.set_cons_zero, List.set_cons_succ]
          refine wpAny_take (i := 2) (v := .pointer (some ⟨ga, oa + k * 5, none⟩)) rfl (by kernel_rfl) (by kernel_rfl) (by kernel_rfl) (fun _ _ _ h => h) (Or.inl ⟨by rfl, by intro wz; go_simp⟩) ?_
          try simp only [Act.put, List.getElem_toArray, List.getElem_cons_succ, List.getElem_cons_zero, List.setIfInBounds_toArray, List.set_cons_zero, List.set_cons_succ]
          refine wpAny_take (i := 4) (v := .slice (some ⟨gb, ob, none⟩) Z.length capb) rfl (by kernel_rfl) (by kernel_rfl) (by kernel_rfl) (fun _ _ _ h => h) (Or.inl ⟨by rfl, by intro wz; go_simp⟩) ?_
          try simp only [Act.put, List.getElem_toArray, List.getElem_cons_succ, List.getElem_cons_zero, List.setIfInBounds_toArray, List.set_cons_zero, List.set_cons_succ]
          refine wpAny_take (i := 5) (v := .int .i64 (k : Int)) rfl (by kernel_rfl) (by kernel_rfl) (by kernel_rfl) (fun _ _ _ h => h) (Or.inl ⟨by rfl, by intro wz; go_simp⟩) ?_
          try simp only [Act.put, List.getElem_toArray, List.getElem_cons_succ, List.getElem_cons_zero, List.setIfInBounds_toArray, List.set_cons_zero, List.set_cons_succ]
          refine wpAny_take (i := 6) (v := .pointer (some ⟨gb, ob + k * 5, none⟩)) rfl (by kernel_rfl) (by kernel_rfl) (by kernel_rfl) (fun _ _ _ h => h) (Or.inl ⟨by rfl, by intro wz; go_simp⟩) ?_
          try simp only [Act.put, List.getElem_toArray, List.getElem_cons_succ, List.getElem_cons_zero, List.setIfInBounds_toArray, List.set_cons_zero, List.set_cons_succ]
          refine wpAny_ready (rs := [3, 7]) (by kernel_rfl) (by simp) ?_
          refine AllReady.cons rfl (fun K hK => ?_) ?_
          · go_simp
            refine hK _ _ ?_
            clear hK K
            try simp only [Act.put, List.getElem_toArray, List.getElem_cons_succ, List.getElem_cons_zero, List.setIfInBounds_toArray, List.set_cons_zero, List.set_cons_succ]
            refine wpAny_ready (rs := [7]) (by kernel_rfl) (by simp) ?_
            refine AllReady.cons rfl (fun K hK => ?_) ?_
            · go_simp
              refine hK _ _ ?_
              clear hK K
              try simp only [Act.put, List.getElem_toArray, List.getElem_cons_succ, List.getElem_cons_zero, List.setIfInBounds_toArray, List.set_cons_zero, List.set_cons_succ]
              refine wpAny_ready (rs := [8]) (by kernel_rfl) (by simp) ?_
              refine AllReady.cons rfl (fun K hK => ?_) ?_
              · go_simp
                refine (sameNode_any ⟨kx, nx, cx, zx, sx⟩ ⟨ky, ny, cy, zy, sy⟩ _).mono ?_
                rintro e w2 ⟨rfl, hb2'⟩
                rw [HSM.out]
                have hb2 := hbd.trans (hb2'.mono hbd.size)
                refine hK _ _ ?_
                clear hK K
                try simp only [Act.put, List.getElem_toArray, List.getElem_cons_succ, List.getElem_cons_zero, List.setIfInBounds_toArray, List.set_cons_zero, List.set_cons_succ]
                refine wpAny_ready (rs := [9]) (by kernel_rfl) (by simp) ?_
                refine AllReady.cons rfl (fun K hK => ?_) ?_
                · go_simp
                  refine hK _ _ ?_
                  clear hK K
                  try simp only [Act.put, List.getElem_toArray, List.getElem_cons_succ, List.getElem_cons_zero, List.setIfInBounds_toArray, List.set_cons_zero, List.set_cons_succ]
                  refine wpAny_done (by kernel_rfl) ?_ _
                  go_wp2_with fail
                  refine ⟨⟨k + 1, by simp, by omega, ?_, hb2⟩, by simp [intOf]; omega⟩
                  intro j hj
                  by_cases hjk : j < k
                  · exact hh.out j hjk
                  · rw [show j = k by omega, HP.out, HQ.out, (sameN_iff _ _).1 HSM.out]
                exact AllReady.nil
              exact AllReady.nil
            exact AllReady.nil
          refine AllReady.cons rfl (fun K hK => ?_) ?_
          · go_simp
            refine hK _ _ ?_
            clear hK K
            try simp only [Act.put, List.getElem_toArray, List.getElem_cons_succ, List.getElem_cons_zero, List.setIfInBounds_toArray, List.set_cons_zero, List.set_cons_succ]
            refine wpAny_ready (rs := [3]) (by kernel_rfl) (by simp) ?_
            refine AllReady.cons rfl (fun K hK => ?_) ?_
            · go_simp
              refine hK _ _ ?_
              clear hK K
              try simp only [Act.put, List.getElem_toArray, List.getElem_cons_succ, List.getElem_cons_zero, List.setIfInBounds_toArray, List.set_cons_zero, List.set_cons_succ]
              refine wpAny_ready (rs := [8]) (by kernel_rfl) (by simp) ?_
              refine AllReady.cons rfl (fun K hK => ?_) ?_
              · go_simp
                refine (sameNode_any ⟨kx, nx, cx, zx, sx⟩ ⟨ky, ny, cy, zy, sy⟩ _).mono ?_
                rintro e w2 ⟨rfl, hb2'⟩
                rw [HSM.out]
                have hb2 := hbd.trans (hb2'.mono hbd.size)
                refine hK _ _ ?_
                clear hK K
                try simp only [Act.put, List.getElem_toArray, List.getElem_cons_succ, List.getElem_cons_zero, List.setIfInBounds_toArray, List.set_cons_zero, List.set_cons_succ]
                refine wpAny_ready (rs := [9]) (by kernel_rfl) (by simp) ?_
                refine AllReady.cons rfl (fun K hK => ?_) ?_
                · go_simp
                  refine hK _ _ ?_
                  clear hK K
                  try simp only [Act.put, List.getElem_toArray, List.getElem_cons_succ, List.getElem_cons_zero, List.setIfInBounds_toArray, List.set_cons_zero, List.set_cons_succ]
                  refine wpAny_done (by kernel_rfl) ?_ _
                  go_wp2_with fail
                  refine ⟨⟨k + 1, by simp, by omega, ?_, hb2⟩, by simp [intOf]; omega⟩
                  intro j hj
                  by_cases hjk : j < k
                  · exact hh.out j hjk
                  · rw [show j = k by omega, HP.out, HQ.out, (sameN_iff _ _).1 HSM.out]
                exact AllReady.nil
              exact AllReady.nil
            exact AllReady.nil
          exact AllReady.nil
        | false =>
          go_wp2_with fail
          refine wp_region_any (by kernel_rfl) ?_
          try (change wpAny _ _ _ _ _ _ _ (World.drew _))
          refine wpAny_take (i := 0) (v := .slice (some ⟨ga, oa, none⟩) X.length capa) rfl (by kernel_rfl) (by kernel_rfl) (by kernel_rfl) (fun _ _ _ h => h) (Or.inl ⟨by rfl, by intro wz; go_simp⟩) ?_
          try simp only [Act.put, List.getElem_toArray, List.getElem_cons_zero, List.setIfInBounds_toArray, List.set_cons_zero, List.set_cons_succ]
          refine wpAny_take (i := 1) (v := .int .i64 (k : Int)) rfl (by kernel_rfl) (by kernel_rfl) (by kernel_rfl) (fun _ _ _ h => h) (Or.inl ⟨by rfl, by intro wz; go_simp⟩) ?_
          try simp only [Act.put, List.getElem_toArray, List.getElem_cons_succ, List.getElem_cons_zero, List.setIfInBounds_toArray, List.set_cons_zero, List.set_cons_succ]
          refine wpAny_take (i := 2) (v := .pointer (some ⟨ga, oa + k * 5, none⟩)) rfl (by kernel_rfl) (by kernel_rfl) (by kernel_rfl) (fun _ _ _ h => h) (Or.inl ⟨by rfl, by intro wz; go_simp⟩) ?_
          try simp only [Act.put, List.getElem_toArray, List.getElem_cons_succ, List.getElem_cons_zero, List.setIfInBounds_toArray, List.set_cons_zero, List.set_cons_succ]
          refine wpAny_take (i := 4) (v := .slice (some ⟨gb, ob, none⟩) Z.length capb) rfl (by kernel_rfl) (by kernel_rfl) (by kernel_rfl) (fun _ _ _ h => h) (Or.inl ⟨by rfl, by intro wz; go_simp⟩) ?_
          try simp only [Act.put, List.getElem_toArray, List.getElem_cons_succ, List.getElem_cons_zero, List.setIfInBounds_toArray, List.set_cons_zero, List.set_cons_succ]
          refine wpAny_take (i := 5) (v := .int .i64 (k : Int)) rfl (by kernel_rfl) (by kernel_rfl) (by kernel_rfl) (fun _ _ _ h => h) (Or.inl ⟨by rfl, by intro wz; go_simp⟩) ?_
          try simp only [Act.put, List.getElem_toArray, List.getElem_cons_succ, List.getElem_cons_zero, List.setIfInBounds_toArray, List.set_cons_zero, List.set_cons_succ]
          refine wpAny_take (i := 6) (v := .pointer (some ⟨gb, ob + k * 5, none⟩)) rfl (by kernel_rfl) (by kernel_rfl) (by kernel_rfl) (fun _ _ _ h => h) (Or.inl ⟨by rfl, by intro wz; go_simp⟩) ?_
          try simp only [Act.put, List.getElem_toArray, List.getElem_cons_succ, List.getElem_cons_zero, List.setIfInBounds_toArray, List.set_cons_zero, List.set_cons_succ]
          refine wpAny_ready (rs := [3, 7]) (by kernel_rfl) (by simp) ?_
          refine AllReady.cons rfl (fun K hK => ?_) ?_
          · go_simp
            refine hK _ _ ?_
            clear hK K
            try simp only [Act.put, List.getElem_toArray, List.getElem_cons_succ, List.getElem_cons_zero, List.setIfInBounds_toArray, List.set_cons_zero, List.set_cons_succ]
            refine wpAny_ready (rs := [7]) (by kernel_rfl) (by simp) ?_
            refine AllReady.cons rfl (fun K hK => ?_) ?_
            · go_simp
              refine hK _ _ ?_
              clear hK K
              try simp only [Act.put, List.getElem_toArray, List.getElem_cons_succ, List.getElem_cons_zero, List.setIfInBounds_toArray, List.set_cons_zero, List.set_cons_succ]
              refine wpAny_ready (rs := [8]) (by kernel_rfl) (by simp) ?_
              refine AllReady.cons rfl (fun K hK => ?_) ?_
              · go_simp
                refine (sameNode_any ⟨kx, nx, cx, zx, sx⟩ ⟨ky, ny, cy, zy, sy⟩ _).mono ?_
                rintro e w2 ⟨rfl, hb2'⟩
                rw [HSM.out]
                have hb2 := hbd.trans (hb2'.mono hbd.size)
                refine hK _ _ ?_
                clear hK K
                try simp only [Act.put, List.getElem_toArray, List.getElem_cons_succ, List.getElem_cons_zero, List.setIfInBounds_toArray, List.set_cons_zero, List.set_cons_succ]
                refine wpAny_ready (rs := [9]) (by kernel_rfl) (by simp) ?_
                refine AllReady.cons rfl (fun K hK => ?_) ?_
                · go_simp
                  refine hK _ _ ?_
                  clear hK K
                  try simp only [Act.put, List.getElem_toArray, List.getElem_cons_succ, List.getElem_cons_zero, List.setIfInBounds_toArray, List.set_cons_zero, List.set_cons_succ]
                  refine wpAny_done (by kernel_rfl) ?_ _
                  go_wp2_with fail
                  go_ret
                  refine ⟨ret_bool (sameNs_false (fun e => ?_)).symm, hb2⟩
                  have h1 := HP.out
                  rw [e, HQ.out] at h1
                  have h2 := HSM.out
                  rw [(sameN_iff _ _).2 (Option.some.inj h1).symm] at h2
                  cases h2
                exact AllReady.nil
              exact AllReady.nil
            exact AllReady.nil
          refine AllReady.cons rfl (fun K hK => ?_) ?_
          · go_simp
            refine hK _ _ ?_
            clear hK K
            try simp only [Act.put, List.getElem_toArray, List.getElem_cons_succ, List.getElem_cons_zero, List.setIfInBounds_toArray, List.set_cons_zero, List.set_cons_succ]
            refine wpAny_ready (rs := [3]) (by kernel_rfl) (by simp) ?_
            refine AllReady.cons rfl (fun K hK => ?_) ?_
            · go_simp
              refine hK _ _ ?_
              clear hK K
              try simp only [Act.put, List.getElem_toArray, List.getElem_cons_succ, List.getElem_cons_zero, List.setIfInBounds_toArray, List.set_cons_zero, List.set_cons_succ]
              refine wpAny_ready (rs := [8]) (by kernel_rfl) (by simp) ?_
              refine AllReady.cons rfl (fun K hK => ?_) ?_
              · go_simp
                refine (sameNode_any ⟨kx, nx, cx, zx, sx⟩ ⟨ky, ny, cy, zy, sy⟩ _).mono ?_
                rintro e w2 ⟨rfl, hb2'⟩
                rw [HSM.out]
                have hb2 := hbd.trans (hb2'.mono hbd.size)
                refine hK _ _ ?_
                clear hK K
                try simp only [Act.put, List.getElem_toArray, List.getElem_cons_succ, List.getElem_cons_zero, List.setIfInBounds_toArray, List.set_cons_zero, List.set_cons_succ]
                refine wpAny_ready (rs := [9]) (by kernel_rfl) (by simp) ?_
                refine AllReady.cons rfl (fun K hK => ?_) ?_
                · go_simp
                  refine hK _ _ ?_
                  clear hK K
                  try simp only [Act.put, List.getElem_toArray, List.getElem_cons_succ, List.getElem_cons_zero, List.setIfInBounds_toArray, List.set_cons_zero, List.set_cons_succ]
                  refine wpAny_done (by kernel_rfl) ?_ _
                  go_wp2_with fail
                  go_ret
                  refine ⟨ret_bool (sameNs_false (fun e => ?_)).symm, hb2⟩
                  have h1 := HP.out
                  rw [e, HQ.out] at h1
                  have h2 := HSM.out
                  rw [(sameN_iff _ _).2 (Option.some.inj h1).symm] at h2
                  cases h2
                exact AllReady.nil
              exact AllReady.nil
            exact AllReady.nil
          exact AllReady.nil
      · go_wp2_with fail
        go_ret
        refine ⟨ret_bool (sameNs_true (nds_ext _ _ k HL.out hh.out (by omega))).symm, hbr⟩
  · have hf : ((X.length : Int) != (Z.length : Int)) = true := by simp; omega
    go_enter Tryd.func10, Tryd.ntmps10
    go_wp2_with fail
    go_ret
    exact ⟨ret_bool (sameNs_false (fun e => hl (by have := congrArg List.length e; exact this))).symm, Below.refl _ _⟩
end Go.Proofs.YtfakelaibijgkaaDoor
