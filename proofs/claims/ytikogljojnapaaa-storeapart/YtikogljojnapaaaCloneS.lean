/- A store is cloned. -/
import Derived.Test.YtikogljojnapaaaTell2
import Derived.Test.YtikogljojnapaaaShelf2
import Derived.Deep.Cut
namespace Go.Proofs.Ytikogljojnapaaa
open Go.RowKit Go.Shelf

variable {W : World} {K : Nat → Prop} {sb vb fb : Nat} {V : Vrs} {G : Fns}
set_option maxRecDepth 100000 in
set_option maxHeartbeats 1000000 in
theorem vclone (h : Sto W K sb vb fb V G) : Calls Try.prog 34 #[sP sb] W fun e w' => e = .returned (.agg #[.map (some (W.heap.size + 1))]) ∧ w'.ownsMap Try.prog 9 hE (W.heap.size + 1) V.length (dM V) ∧ Below W.heap.size W w' := by
  have hb0 := below_new W (.cells #[.map none] 46)
  have h0 := h.below hb0
  have c0 : (W.alloc (.cells #[.map none] 46)).cell? ⟨sb, 0, none⟩ = some (.map (some vb)) := h0.sc.cell 0
  have HC : Hid (Calls Try.prog 43 #[.map (some vb)] (W.alloc (.cells #[.map none] 46)) fun e w' => e = .returned (.map (some (W.heap.size + 1))) ∧ w'.ownsMap Try.prog 9 hE (W.heap.size + 1) V.length (dM V) ∧ Below (W.alloc (.cells #[.map none] 46)).heap.size (W.alloc (.cells #[.map none] 46)) w') := by
    have := AnyW.maps_Clone_owns Try.mc43 9 hE vb V.length (dM V) _ h0.vm
    rw [show (W.alloc (.cells #[.map none] 46)).heap.size = W.heap.size + 1 by simp] at this
    exact this.mono (fun e w' ⟨h1, h2, _, h3⟩ => ⟨h1, h2, by rw [show (W.alloc (.cells #[.map none] 46)).heap.size = W.heap.size + 1 by simp]; exact h3⟩)
  have C0 := Cel.new W 46 #[.map none]
  clear h h0
  go_enter Try.func34, Try.ntmps34
  go_wp2_with fail
  refine Calls.mono HC.out ?_
  rintro e w1 ⟨rfl, hm1, hb1'⟩
  have C1 : Cel w1 W.heap.size 46 #[.map none] := C0.turn (Turn.ofBelow (S := fun _ => False) hb1') (fun h => h)
  have hb1 : Below W.heap.size W w1 := hb0.trans (hb1'.mono hb0.size)
  have c1 := C1.cell 0
  have f1 := C1.frozen 0
  have C2 := C1.set (j := 0) (.map (some (W.heap.size + 1)))
  clear hb1' c0 C0
  go_wp2_with fail
  refine bodyPost_ret (results_cell_row (p := 2) (ty := 46) rfl _ _ W.heap.size 46 #[.map (some (W.heap.size + 1))] (0, 0) _ rfl C2 Try.underlying46 rfl size46) rfl ?_
  refine ⟨rfl, ?_, ?_⟩
  · exact map_turn (S := fun i => i = W.heap.size) hm1 ((Turn.refl (fun i => i = W.heap.size) w1).setCell (p := ⟨W.heap.size, 0, none⟩) (fun _ => rfl) _) (fun e => by omega)
  · exact hb1.setCell (Nat.le_refl _) _
set_option maxRecDepth 100000 in
set_option maxHeartbeats 1000000 in
theorem fclone (h : Sto W K sb vb fb V G) : Calls Try.prog 35 #[fP sb] W fun e w' => e = .returned (.agg #[.map (some (W.heap.size + 1))]) ∧ w'.ownsMap Try.prog 9 hE (W.heap.size + 1) G.length (dM G) ∧ Below W.heap.size W w' := by
  have hb0 := below_new W (.cells #[.map none] 49)
  have h0 := h.below hb0
  have c0 : (W.alloc (.cells #[.map none] 49)).cell? ⟨sb, 1, none⟩ = some (.map (some fb)) := h0.sc.cell 1
  have HC : Hid (Calls Try.prog 44 #[.map (some fb)] (W.alloc (.cells #[.map none] 49)) fun e w' => e = .returned (.map (some (W.heap.size + 1))) ∧ w'.ownsMap Try.prog 9 hE (W.heap.size + 1) G.length (dM G) ∧ Below (W.alloc (.cells #[.map none] 49)).heap.size (W.alloc (.cells #[.map none] 49)) w') := by
    have := AnyW.maps_Clone_owns Try.mc44 9 hE fb G.length (dM G) _ h0.fm
    rw [show (W.alloc (.cells #[.map none] 49)).heap.size = W.heap.size + 1 by simp] at this
    exact this.mono (fun e w' ⟨h1, h2, _, h3⟩ => ⟨h1, h2, by rw [show (W.alloc (.cells #[.map none] 49)).heap.size = W.heap.size + 1 by simp]; exact h3⟩)
  have C0 := Cel.new W 49 #[.map none]
  clear h h0
  go_enter Try.func35, Try.ntmps35
  go_wp2_with fail
  refine Calls.mono HC.out ?_
  rintro e w1 ⟨rfl, hm1, hb1'⟩
  have C1 : Cel w1 W.heap.size 49 #[.map none] := C0.turn (Turn.ofBelow (S := fun _ => False) hb1') (fun h => h)
  have hb1 : Below W.heap.size W w1 := hb0.trans (hb1'.mono hb0.size)
  have c1 := C1.cell 0
  have f1 := C1.frozen 0
  have C2 := C1.set (j := 0) (.map (some (W.heap.size + 1)))
  clear hb1' c0 C0
  go_wp2_with fail
  refine bodyPost_ret (results_cell_row (p := 2) (ty := 49) rfl _ _ W.heap.size 49 #[.map (some (W.heap.size + 1))] (0, 0) _ rfl C2 Try.underlying49 rfl size49) rfl ?_
  refine ⟨rfl, ?_, ?_⟩
  · exact map_turn (S := fun i => i = W.heap.size) hm1 ((Turn.refl (fun i => i = W.heap.size) w1).setCell (p := ⟨W.heap.size, 0, none⟩) (fun _ => rfl) _) (fun e => by omega)
  · exact hb1.setCell (Nat.le_refl _) _
/-- The clone: rows are shared, maps are not. -/
theorem Sto.cloned {w2 : World} {vb' fb' : Nat} (h : Sto W K sb vb fb V G) (hb : Below W.heap.size W w2) (hv : w2.ownsMap Try.prog 9 hE vb' V.length (dM V)) (hf : w2.ownsMap Try.prog 9 hE fb' G.length (dM G)) (hlv : W.heap.size ≤ vb') (hlf : W.heap.size ≤ fb') (hne : vb' ≠ fb') :
    Sto (w2.alloc (.cells #[.map (some vb'), .map (some fb')] 51)) (fun i => K i ∨ W.heap.size ≤ i ∧ i < w2.heap.size + 1) w2.heap.size vb' fb' V G ∧ (W.heap.size ≤ w2.heap.size ∧ W.heap.size ≤ vb' ∧ W.heap.size ≤ fb') ∧ (∀ i, (K i ∨ W.heap.size ≤ i ∧ i < w2.heap.size + 1) → K i ∨ W.heap.size ≤ i) ∧ Below W.heap.size W (w2.alloc (.cells #[.map (some vb'), .map (some fb')] 51)) := by
  have hb3 := below_new w2 (.cells #[.map (some vb'), .map (some fb')] 51)
  have hB : Below W.heap.size W (w2.alloc (.cells #[.map (some vb'), .map (some fb')] 51)) := hb.trans (hb3.mono hb.size)
  have h3 := h.below hB
  have hT3 := Turn.ofBelow (S := fun _ => False) hb3
  have e1 : (w2.alloc (.cells #[.map (some vb'), .map (some fb')] 51)).heap.size = w2.heap.size + 1 := by simp
  have hvl := hv.lt
  have hfl := hf.lt
  have hz := hb.size
  refine ⟨⟨Cel.new w2 51 _, map_turn hv hT3 (fun h => h), map_turn hf hT3 (fun h => h), fun p hp => (h3.vt p hp).mono (fun _ h => .inl h), fun p hp => (h3.ft p hp).mono (fun _ h => .inl h), h.vl, h.fl, .inr ⟨hz, by omega⟩, .inr ⟨hlv, by omega⟩, .inr ⟨hlf, by omega⟩, hne, fun i hi => ?_⟩, ⟨hz, hlv, hlf⟩, fun i hi => hi.imp id (fun h => h.1), hB⟩
  rw [e1]
  rcases hi with hi | hi
  · have := h.lt i hi
    omega
  · exact hi.2
set_option maxRecDepth 100000 in
set_option maxHeartbeats 2000000 in
theorem cloneS (h : Sto W K sb vb fb V G) : Calls Try.prog 12 #[sP sb] W fun e w' => ∃ sb' vb' fb' K', e = .returned (sP sb') ∧ Sto w' K' sb' vb' fb' V G ∧ (W.heap.size ≤ sb' ∧ W.heap.size ≤ vb' ∧ W.heap.size ≤ fb') ∧ (∀ i, K' i → K i ∨ W.heap.size ≤ i) ∧ Below W.heap.size W w' := by
  have HS : Hid (∀ W', Below W.heap.size W W' → Sto W' K sb vb fb V G) := fun W' hb => h.below hb
  clear h
  have hbd : Below W.heap.size W W.drew := (Below.refl _ W).drew
  go_enter Try.func12, Try.ntmps12
  go_upto_region 1 with fail
  refine wp_region_any (by kernel_rfl) ?_
  try (change wpAny _ _ _ _ _ _ _ (World.drew _))
  refine wpAny_take (i := 0) (v := sP sb) rfl (by kernel_rfl) (by kernel_rfl) (by kernel_rfl) (fun _ _ _ h => h) (Or.inl ⟨by rfl, by intro wz; go_simp⟩) ?_
  try simp only [Act.put, List.getElem_toArray, List.getElem_cons_zero, List.setIfInBounds_toArray, List.set_cons_zero, List.set_cons_succ]
  refine wpAny_take (i := 1) (v := sP sb) rfl (by kernel_rfl) (by kernel_rfl) (by kernel_rfl) (fun _ _ _ h => h) (Or.inl ⟨by rfl, by intro wz; go_simp⟩) ?_
  try simp only [Act.put, List.getElem_toArray, List.getElem_cons_succ, List.getElem_cons_zero, List.setIfInBounds_toArray, List.set_cons_zero, List.set_cons_succ]
  refine wpAny_take (i := 2) (v := sP sb) rfl (by kernel_rfl) (by kernel_rfl) (by kernel_rfl) (fun _ _ _ h => h) (Or.inl ⟨by rfl, by intro wz; go_simp⟩) ?_
  try simp only [Act.put, List.getElem_toArray, List.getElem_cons_succ, List.getElem_cons_zero, List.setIfInBounds_toArray, List.set_cons_zero, List.set_cons_succ]
  refine wpAny_take (i := 4) (v := sP sb) rfl (by kernel_rfl) (by kernel_rfl) (by kernel_rfl) (fun _ _ _ h => h) (Or.inl ⟨by rfl, by intro wz; go_simp⟩) ?_
  try simp only [Act.put, List.getElem_toArray, List.getElem_cons_succ, List.getElem_cons_zero, List.setIfInBounds_toArray, List.set_cons_zero, List.set_cons_succ]
  refine wpAny_take (i := 5) (v := sP sb) rfl (by kernel_rfl) (by kernel_rfl) (by kernel_rfl) (fun _ _ _ h => h) (Or.inl ⟨by rfl, by intro wz; go_simp⟩) ?_
  try simp only [Act.put, List.getElem_toArray, List.getElem_cons_succ, List.getElem_cons_zero, List.setIfInBounds_toArray, List.set_cons_zero, List.set_cons_succ]
  refine wpAny_take (i := 6) (v := fP sb) rfl (by kernel_rfl) (by kernel_rfl) (by kernel_rfl) (fun _ _ _ h => h) (Or.inl ⟨by rfl, by intro wz; go_simp⟩) ?_
  try simp only [Act.put, List.getElem_toArray, List.getElem_cons_succ, List.getElem_cons_zero, List.setIfInBounds_toArray, List.set_cons_zero, List.set_cons_succ]
  refine wpAny_ready (rs := [3]) (by kernel_rfl) (by simp) ?_
  refine AllReady.cons rfl (fun K hK => ?_) ?_
  · go_simp
    refine (vclone (HS.out _ hbd)).mono ?_
    rintro e w1 ⟨rfl, hm1, hb1'⟩
    have hb1 : Below W.heap.size W w1 := hbd.trans hb1'
    have hzz : W.heap.size + 1 < w1.heap.size := hm1.lt
    have HM1 : Hid (w1.ownsMap Try.prog 9 hE (W.heap.size + 1) V.length (dM V)) := hm1
    refine hK _ _ ?_
    clear hK K hm1 hb1'
    try simp only [Act.put, List.getElem_toArray, List.getElem_cons_succ, List.getElem_cons_zero, List.setIfInBounds_toArray, List.set_cons_zero, List.set_cons_succ]
    refine wpAny_ready (rs := [7]) (by kernel_rfl) (by simp) ?_
    refine AllReady.cons rfl (fun K hK => ?_) ?_
    · go_simp
      refine (fclone (HS.out _ hb1)).mono ?_
      rintro e w2 ⟨rfl, hm2, hb2'⟩
      have hb2 : Below W.heap.size W w2 := hb1.trans (hb2'.mono hb1.size)
      have HM1 : Hid (w2.ownsMap Try.prog 9 hE (W.heap.size + 1) V.length (dM V)) := map_turn HM1.out (Turn.ofBelow (S := fun _ => False) hb2') (fun h => h)
      have HM2 : Hid (w2.ownsMap Try.prog 9 hE (w1.heap.size + 1) G.length (dM G)) := hm2
      have hz1 := HM1.out.lt
      refine hK _ _ ?_
      clear hK K hm2 hb2'
      try simp only [Act.put, List.getElem_toArray, List.getElem_cons_succ, List.getElem_cons_zero, List.setIfInBounds_toArray, List.set_cons_zero, List.set_cons_succ]
      refine wpAny_take (i := 8) (v := .agg #[.map (some (W.heap.size + 1)), .map (some (w1.heap.size + 1))]) rfl (by kernel_rfl) (by kernel_rfl) (by kernel_rfl) (fun _ _ _ h => h) (Or.inl ⟨by rfl, by intro wz; go_simp⟩) ?_
      try simp only [Act.put, List.getElem_toArray, List.getElem_cons_succ, List.getElem_cons_zero, List.setIfInBounds_toArray, List.set_cons_zero, List.set_cons_succ]
      refine wpAny_ready (rs := [9]) (by kernel_rfl) (by simp) ?_
      refine AllReady.cons rfl (fun K hK => ?_) ?_
      · go_simp
        refine hK _ _ ?_
        clear hK K
        try simp only [Act.put, List.getElem_toArray, List.getElem_cons_succ, List.getElem_cons_zero, List.setIfInBounds_toArray, List.set_cons_zero, List.set_cons_succ]
        refine wpAny_take (i := 10) (v := sP w2.heap.size) rfl (by kernel_rfl) (by kernel_rfl) (by kernel_rfl) (fun _ _ _ h => h) (Or.inl ⟨by rfl, by intro wz; go_simp⟩) ?_
        try simp only [Act.put, List.getElem_toArray, List.getElem_cons_succ, List.getElem_cons_zero, List.setIfInBounds_toArray, List.set_cons_zero, List.set_cons_succ]
        refine wpAny_done (by kernel_rfl) ?_ _
        go_wp2_with fail
        go_ret
        exact ⟨_, _, _, _, rfl, Sto.cloned (HS.out W (Below.refl _ _)) hb2 HM1.out HM2.out (by omega) (by omega) (by omega)⟩
      exact AllReady.nil
    exact AllReady.nil
  exact AllReady.nil
end Go.Proofs.Ytikogljojnapaaa
