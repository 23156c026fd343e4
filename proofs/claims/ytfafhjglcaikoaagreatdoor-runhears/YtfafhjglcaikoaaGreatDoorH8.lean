/- The variables, by names. -/
import Derived.Test.YtfafhjglcaikoaaGreatDoorH7
import Derived.Deep.Cut
import Derived.Test.YtfafhjglcaikoaaGreatDoorH4
import Derived.Shelf.SlIter.Nil
import Derived.Shelf.Slices.In.SortNone
/-! More of what a store is told; one is made. -/
namespace Go.Proofs.YtfafhjglcaikoaaGreatDoor
open Go.RowKit
variable {W : World} {K : Nat → Prop} {sb vb fb : Nat} {V : Vrs} {G : Fns}
abbrev star : Txt := [42]
theorem size46 : (Tryz.prog.info? 139).map (·.size) = some 1 := by kernel_rfl
theorem size49 : (Tryz.prog.info? 142).map (·.size) = some 1 := by kernel_rfl
set_option maxRecDepth 100000 in
set_option maxHeartbeats 1000000 in
theorem noVars (W : World) : Calls Tryz.prog 104 #[] W fun e w' => e = .returned (.agg #[.map (some (W.heap.size + 1))]) ∧ w'.ownsMap Tryz.prog 9 hE (W.heap.size + 1) 1 (dM ([(star, .slice none 0 0, [])] : Vrs)) ∧ Below W.heap.size W w' := by
  have hmm := @run_makeMap Tryz.prog
  have hm0 := World.ownsMap_made (W.alloc (.cells #[.map none] 139)) Tryz.prog 9 hE
  have hb0 : Below W.heap.size W ((W.alloc (.cells #[.map none] 139)).alloc (.map #[] 0)) := (below_new W _).alloc (by simp) _
  have C0 : Cel ((W.alloc (.cells #[.map none] 139)).alloc (.map #[] 0)) W.heap.size 139 #[.map none] := (Cel.new W 139 #[.map none]).turn (Turn.ofBelow (S := fun _ => False) (below_new _ _)) (fun h => h)
  rw [show (W.alloc (.cells #[.map none] 139)).heap.size = W.heap.size + 1 by simp] at hm0
  obtain ⟨w1, hrun, hm1, hg1⟩ := hm0.update key9 Tryz.underlying137 (by decide) (val := .slice none 0 0) (d := .held (.slice none 0 0)) (ps := []) (keyOf9 star (by decide)) rfl
  have hT := Turn.ofGrown hg1
  have C1 : Cel w1 W.heap.size 139 #[.map none] := C0.turn hT (fun e => by simp at e)
  have hb1 : Below W.heap.size W w1 := hb0.trans (hT.below (fun i e => by cases e; omega) hb0.size)
  have c1 := C1.cell 0
  have f1 := C1.frozen 0
  have C2 := C1.set (j := 0) (.map (some (W.heap.size + 1)))
  clear hm0 hb0 C0 hg1
  go_enter Tryz.func104, Tryz.ntmps104
  go_wp2_with fail
  refine bodyPost_ret (results_cell_row (p := 0) (ty := 139) rfl _ _ W.heap.size 139 #[.map (some (W.heap.size + 1))] (0, 0) _ rfl C2 Tryz.underlying139 rfl size46) rfl ?_
  refine ⟨rfl, ?_, ?_⟩
  · exact map_turnS (S := fun i => i = W.heap.size) hm1 ((Turn.refl (fun i => i = W.heap.size) w1).setCell (p := ⟨W.heap.size, 0, none⟩) (fun _ => rfl) _) (fun e => by omega)
  · exact hb1.setCell (Nat.le_refl _) _
set_option maxRecDepth 100000 in
set_option maxHeartbeats 1000000 in
theorem noFuns (W : World) : Calls Tryz.prog 105 #[] W fun e w' => e = .returned (.agg #[.map (some (W.heap.size + 1))]) ∧ w'.ownsMap Tryz.prog 9 hE (W.heap.size + 1) 0 (dM ([] : Fns)) ∧ Below W.heap.size W w' := by
  have hmm := @run_makeMap Tryz.prog
  have hm0 := World.ownsMap_made (W.alloc (.cells #[.map none] 142)) Tryz.prog 9 hE
  have hb1 : Below W.heap.size W ((W.alloc (.cells #[.map none] 142)).alloc (.map #[] 0)) := (below_new W _).alloc (by simp) _
  have C1 : Cel ((W.alloc (.cells #[.map none] 142)).alloc (.map #[] 0)) W.heap.size 142 #[.map none] := (Cel.new W 142 #[.map none]).turn (Turn.ofBelow (S := fun _ => False) (below_new _ _)) (fun h => h)
  rw [show (W.alloc (.cells #[.map none] 142)).heap.size = W.heap.size + 1 by simp] at hm0
  obtain ⟨w1, hw1⟩ : ∃ w1, w1 = (W.alloc (.cells #[.map none] 142)).alloc (.map #[] 0) := ⟨_, rfl⟩
  have hmk : (Instr.makeMap 140 none).run Tryz.prog (W.alloc (.cells #[.map none] 142)) = .ok (.map (some (W.heap.size + 1))) w1 := by
    rw [hmm, ← hw1]
    simp
  rw [← hw1] at hm0 hb1 C1
  clear hw1 hmm
  have c1 := C1.cell 0
  have f1 := C1.frozen 0
  have C2 := C1.set (j := 0) (.map (some (W.heap.size + 1)))
  go_enter Tryz.func105, Tryz.ntmps105
  go_wp2_with fail
  refine bodyPost_ret (results_cell_row (p := 0) (ty := 142) rfl _ _ W.heap.size 142 #[.map (some (W.heap.size + 1))] (0, 0) _ rfl C2 Tryz.underlying142 rfl size49) rfl ?_
  refine ⟨rfl, ?_, ?_⟩
  · exact map_turnS (S := fun i => i = W.heap.size) hm0 ((Turn.refl (fun i => i = W.heap.size) w1).setCell (p := ⟨W.heap.size, 0, none⟩) (fun _ => rfl) _) (fun e => by omega)
  · exact hb1.setCell (Nat.le_refl _) _

/-! ### swapped, and the arguments -/
end Go.Proofs.YtfafhjglcaikoaaGreatDoor
/-! A store is made. -/
namespace Go.Proofs.YtfafhjglcaikoaaGreatDoor
open Go.RowKit

/-- Values that came in: names, and lists of texts. -/
def VaAt (W : World) (v : Value) (X : Vrs) : Prop := RowAtS W v 2 (X.map fun p => [str p.1, p.2.1]) ∧ ∀ p ∈ X, Tx W p.2.1 p.2.2
theorem VaAt.form {W : World} {v : Value} {X : Vrs} (h : VaAt W v X) : ∃ ad cap, v = .slice ad X.length cap := by
  obtain ⟨ad, cap, hv⟩ := RowAtS.form h.1
  exact ⟨ad, cap, by rw [hv]; simp⟩
theorem VaAt.nil (W : World) : VaAt W (.slice none 0 0) [] := ⟨.inl ⟨rfl, .inl rfl⟩, fun p hp => by simp at hp⟩
theorem VaAt.at {W : World} {v : Value} {X : Vrs} (h : VaAt W v X) {j : Nat} {p : Txt × Value × List Txt} (hj : X[j]? = some p) : ∃ g o cap, v = .slice (some ⟨g, o, none⟩) X.length cap ∧ g < W.heap.size ∧
    W.cell? ⟨g, o + j * 2, none⟩ = some (str p.1) ∧ W.cell? ⟨g, o + j * 2 + 1, none⟩ = some p.2.1 ∧ Tx W p.2.1 p.2.2 := by
  rcases h.1 with ⟨h0, _⟩ | ⟨g, o, cap, h1, h2, h3, h4⟩
  · have : X = [] := by simpa using h0
    rw [this] at hj
    simp at hj
  · have hc := h4 j [str p.1, p.2.1] (by rw [List.getElem?_map, hj]; rfl)
    exact ⟨g, o, cap, by simpa using h1, h3, hc 0 _ rfl, hc 1 _ rfl, h.2 p (List.mem_of_getElem? hj)⟩
def startV : Vrs := [(star, .slice none 0 0, [])]
def newM (X : Vrs) : List (Txt × List Txt) := (cont X).foldl (fun F p => putM F p.1 p.2) [(star, [])]
theorem Sto.made {W w1 w2 : World} {vb : Nat} (hv : w1.ownsMap Tryz.prog 9 hE vb 1 (dM startV)) (hb1 : Below W.heap.size W w1) (_hlo : W.heap.size ≤ vb) (hf : w2.ownsMap Tryz.prog 9 hE (w1.heap.size + 1) 0 (dM ([] : Fns))) (hb2 : Below w1.heap.size w1 w2) :
    Sto (w2.alloc (.cells #[.map (some vb), .map (some (w1.heap.size + 1))] 144)) (fun i => i = vb ∨ i = w1.heap.size + 1 ∨ i = w2.heap.size) w2.heap.size vb (w1.heap.size + 1) startV [] ∧ Below W.heap.size W (w2.alloc (.cells #[.map (some vb), .map (some (w1.heap.size + 1))] 144)) := by
  have hvl := hv.lt
  have hfl := hf.lt
  have hb3 : Below w2.heap.size w2 (w2.alloc (.cells #[.map (some vb), .map (some (w1.heap.size + 1))] 144)) := below_new w2 _
  have hT3 := Turn.ofBelow (S := fun _ => False) hb3
  have hT2 := Turn.ofBelow (S := fun _ => False) hb2
  have hs2 := hb2.size
  refine ⟨⟨Cel.new w2 144 _, map_turnS (map_turnS hv hT2 (fun h => h)) hT3 (fun h => h), map_turnS hf hT3 (fun h => h), ?_, fun p hp => by simp at hp, ?_, fun p hp => by simp at hp, .inr (.inr rfl), .inl rfl, .inr (.inl rfl), by omega, ?_⟩, ?_⟩
  · intro p hp
    unfold startV at hp
    simp only [List.mem_singleton] at hp
    subst hp
    exact ⟨World.ownsRow_nil _ _ _ _, fun b hb => by simp [Value.ownBlock] at hb⟩
  · intro p hp
    unfold startV at hp
    simp only [List.mem_singleton] at hp
    subst hp
    simp only [List.length_nil, Nat.zero_mul, Nat.zero_le]
  · intro i hi
    have : (w2.alloc (.cells #[.map (some vb), .map (some (w1.heap.size + 1))] 144)).heap.size = w2.heap.size + 1 := by simp
    rw [this]
    omega
  · exact (hb1.trans (hb2.mono hb1.size)).trans (hb3.mono (Nat.le_trans hb1.size hs2))
set_option maxRecDepth 100000 in
set_option maxHeartbeats 2000000 in
theorem new_anyS (v : Value) (X : Vrs) (W : World) (h : VaAt W v X) (hX : X.length < 65536) (hn : ∀ p ∈ X, p.1.length ≤ maxLen ∧ p.2.2.length * 16 ≤ big) :
    Calls Tryz.prog 62 #[v] W fun e w' => ∃ sb vb fb K V, e = .returned (sP sb) ∧ Sto w' K sb vb fb V [] ∧ cont V = newM X ∧ (∀ i, K i → W.heap.size ≤ i) ∧ V.length ≤ X.length + 1 ∧ Below W.heap.size W w' := by
  have HV : Hid (VaAt W v X) := h
  have HN : Hid (∀ p ∈ X, p.1.length ≤ maxLen ∧ p.2.2.length * 16 ≤ big) := hn
  obtain ⟨ad, cap, rfl⟩ := h.form
  clear h hn
  go_enter Tryz.func62, Tryz.ntmps62
  go_wp2_with fail
  refine (noVars W).mono ?_
  rintro e w1 ⟨rfl, hm1, hb1⟩
  go_wp2_with fail
  refine (noFuns w1).mono ?_
  rintro e w2 ⟨rfl, hm2, hb2⟩
  obtain ⟨hS, hB⟩ := Sto.made hm1 hb1 (by omega) hm2 hb2
  generalize hvb : W.heap.size + 1 = vb at hS hm1
  generalize hfb : w1.heap.size + 1 = fb at hS hm2
  go_wp2_with fail
  have hB' : Below W.heap.size W (w2.alloc (.cells #[.map (some vb), .map (some fb)] 144)) := by rw [← hvb, ← hfb]; exact hB
  have hlo : W.heap.size ≤ vb ∧ W.heap.size ≤ fb ∧ W.heap.size ≤ w2.heap.size := by
    have := hb1.size
    have := hb2.size
    omega
  clear hB hm1 hm2 hb1 hb2 hvb hfb
  generalize hw3 : w2.alloc (.cells #[.map (some vb), .map (some fb)] 144) = w3 at *
  generalize hsb : w2.heap.size = sb at *
  clear hw3 hsb
  have HS : Hid (Sto w3 (fun i => i = vb ∨ i = fb ∨ i = sb) sb vb fb startV []) := hS
  have HB : Hid (Below W.heap.size W w3 ∧ W.heap.size ≤ vb ∧ W.heap.size ≤ fb ∧ W.heap.size ≤ sb) := ⟨hB', hlo⟩
  clear hS hB' hlo
  go_loopw [5, 12] (fun _ v12 wr => ∃ k : Nat, v12 = .int .i64 k ∧ k ≤ X.length ∧ ∃ K V, Hid (Sto wr K sb vb fb V [] ∧ cont V = newM (X.take k) ∧ (∀ i, K i → W.heap.size ≤ i) ∧ V.length ≤ k + 1 ∧ Below W.heap.size W wr)) (fun _ v12 _ => X.length - (intOf v12).toNat)
  case atStart => exact ⟨0, rfl, Nat.zero_le _, _, _, HS.out, rfl, fun i hi => by have := HB.out; omega, Nat.le_refl _, HB.out.1⟩
  case round =>
    obtain ⟨k, rfl, hk, K, V, HR⟩ := hrel
    by_cases hkl : k < X.length
    · obtain ⟨p, hp⟩ : ∃ p, X[k]? = some p := ⟨_, List.getElem?_eq_getElem hkl⟩
      obtain ⟨g, o, cap', hv, hg, cn, cl, htx⟩ := HV.out.at hp
      cases hv
      have hbr := HR.out.2.2.2.2
      have c0 := (hbr.cell (p := ⟨g, o + k * 2, none⟩) hg).trans cn
      have c1 := (hbr.cell (p := ⟨g, o + k * 2 + 1, none⟩) hg).trans cl
      obtain ⟨adl, capl, hlv⟩ := htx.form
      rw [hlv] at c1
      have hpm := HN.out p (List.mem_of_getElem? hp)
      obtain ⟨W1, hW1⟩ : ∃ W1, W1 = (wr.alloc (.cells #[str p.1, .slice adl p.2.2.length capl] 75)).drew := ⟨_, rfl⟩
      have hbW : Below wr.heap.size wr W1 := by rw [hW1]; exact (below_new wr _).drew
      have HS2 : Hid (Sto W1 K sb vb fb V []) := HR.out.1.below hbW
      have HP : Hid (p.1.length ≤ maxLen ∧ p.2.2.length * 16 ≤ big ∧ Tx W1 (.slice adl p.2.2.length capl) p.2.2) := ⟨hpm.1, hpm.2, by rw [← hlv]; exact htx.below (hbr.trans (hbW.mono hbr.size)) (Nat.le_refl _)⟩
      have hVl : V.length ≤ k + 1 := HR.out.2.2.2.1
      have HF : Hid (∀ w5 u K5, Sto w5 K5 sb vb fb (putM V p.1 (u, p.2.2)) [] → StpS vb fb W1 K w5 K5 → Hid (Sto w5 K5 sb vb fb (putM V p.1 (u, p.2.2)) [] ∧ cont (putM V p.1 (u, p.2.2)) = newM (X.take (k + 1)) ∧ (∀ i, K5 i → W.heap.size ≤ i) ∧ (putM V p.1 (u, p.2.2)).length ≤ k + 1 + 1 ∧ Below W.heap.size W w5)) := by
        intro w5 u K5 h5 hs5
        obtain ⟨_, r2, r3, r4, r5⟩ := HR.out
        have hb1 : Below W.heap.size W W1 := r5.trans (hbW.mono r5.size)
        refine ⟨h5, ?_, fun i hi => (hs5.2 i hi).elim (r3 i) (fun h => Nat.le_trans hb1.size h), ?_, hb1.trans (hs5.below HB.out.2.1 HB.out.2.2.1 hb1.size)⟩
        · rw [cont_put, r2, newM, newM, List.take_add_one, hp]
          simp [cont]
        · have := length_putM V p.1 (u, p.2.2)
          omega
      have C5 : Cel W1 wr.heap.size 75 #[str p.1, .slice adl p.2.2.length capl] := by rw [hW1]; exact Cel.new wr 75 _
      have x0 := C5.cell 0
      have x1 := C5.cell 1
      clear cn cl htx hlv hpm C5 hbr hp hbW
      go_upto_region 5 with fail
      refine wp_region_any (by kernel_rfl) ?_
      try (change wpAny _ _ _ _ _ _ _ (World.drew _))
      rw [← hW1]
      clear hW1
      refine wpAny_take (i := 0) (v := sP sb) rfl (by kernel_rfl) (by kernel_rfl) (by kernel_rfl) (fun _ _ _ h => h) (Or.inl ⟨by rfl, by intro wz; go_simp⟩) ?_
      try simp only [Act.put, List.getElem_toArray, List.getElem_cons_zero, List.setIfInBounds_toArray, List.set_cons_zero, List.set_cons_succ]
      refine wpAny_take (i := 1) (v := sP sb) rfl (by kernel_rfl) (by kernel_rfl) (by kernel_rfl) (fun _ _ _ h => h) (Or.inl ⟨by rfl, by intro wz; go_simp⟩) ?_
      try simp only [Act.put, List.getElem_toArray, List.getElem_cons_succ, List.getElem_cons_zero, List.setIfInBounds_toArray, List.set_cons_zero, List.set_cons_succ]
      refine wpAny_take (i := 2) (v := sP sb) rfl (by kernel_rfl) (by kernel_rfl) (by kernel_rfl) (fun _ _ _ h => h) (Or.inl ⟨by rfl, by intro wz; go_simp⟩) ?_
      try simp only [Act.put, List.getElem_toArray, List.getElem_cons_succ, List.getElem_cons_zero, List.setIfInBounds_toArray, List.set_cons_zero, List.set_cons_succ]
      refine wpAny_take (i := 3) (v := .pointer (some ⟨wr.heap.size, 0, none⟩)) rfl (by kernel_rfl) (by kernel_rfl) (by kernel_rfl) (fun _ _ _ h => h) (Or.inl ⟨by rfl, by intro wz; go_simp⟩) ?_
      try simp only [Act.put, List.getElem_toArray, List.getElem_cons_succ, List.getElem_cons_zero, List.setIfInBounds_toArray, List.set_cons_zero, List.set_cons_succ]
      refine wpAny_take (i := 5) (v := .pointer (some ⟨wr.heap.size, 1, none⟩)) rfl (by kernel_rfl) (by kernel_rfl) (by kernel_rfl) (fun _ _ _ h => h) (Or.inl ⟨by rfl, by intro wz; go_simp⟩) ?_
      try simp only [Act.put, List.getElem_toArray, List.getElem_cons_succ, List.getElem_cons_zero, List.setIfInBounds_toArray, List.set_cons_zero, List.set_cons_succ]
      refine wpAny_ready (rs := [4, 6]) (by kernel_rfl) (by simp) ?_
      refine AllReady.cons rfl (fun K hK => ?_) ?_
      · go_simp
        refine hK _ _ ?_
        clear hK K
        try simp only [Act.put, List.getElem_toArray, List.getElem_cons_succ, List.getElem_cons_zero, List.setIfInBounds_toArray, List.set_cons_zero, List.set_cons_succ]
        refine wpAny_ready (rs := [6]) (by kernel_rfl) (by simp) ?_
        refine AllReady.cons rfl (fun K hK => ?_) ?_
        · go_simp
          refine hK _ _ ?_
          clear hK K
          try simp only [Act.put, List.getElem_toArray, List.getElem_cons_succ, List.getElem_cons_zero, List.setIfInBounds_toArray, List.set_cons_zero, List.set_cons_succ]
          refine wpAny_ready (rs := [7]) (by kernel_rfl) (by simp) ?_
          refine AllReady.cons rfl (fun K hK => ?_) ?_
          · go_simp
            refine (set_any HS2.out p.1 HP.out.1 (.slice adl p.2.2.length capl) p.2.2 HP.out.2.2 HP.out.2.1 (by omega)).mono ?_
            rintro e w5 ⟨rfl, u, K5, hS5, hT5⟩
            refine hK _ _ ?_
            clear hK K
            try simp only [Act.put, List.getElem_toArray, List.getElem_cons_succ, List.getElem_cons_zero, List.setIfInBounds_toArray, List.set_cons_zero, List.set_cons_succ]
            refine wpAny_done (by kernel_rfl) ?_ _
            go_wp2_with fail
            exact ⟨⟨k + 1, by simp, by omega, K5, _, HF.out w5 u K5 hS5 hT5⟩, by simp [intOf]; omega⟩
          exact AllReady.nil
        exact AllReady.nil
      refine AllReady.cons rfl (fun K hK => ?_) ?_
      · go_simp
        refine hK _ _ ?_
        clear hK K
        try simp only [Act.put, List.getElem_toArray, List.getElem_cons_succ, List.getElem_cons_zero, List.setIfInBounds_toArray, List.set_cons_zero, List.set_cons_succ]
        refine wpAny_ready (rs := [4]) (by kernel_rfl) (by simp) ?_
        refine AllReady.cons rfl (fun K hK => ?_) ?_
        · go_simp
          refine hK _ _ ?_
          clear hK K
          try simp only [Act.put, List.getElem_toArray, List.getElem_cons_succ, List.getElem_cons_zero, List.setIfInBounds_toArray, List.set_cons_zero, List.set_cons_succ]
          refine wpAny_ready (rs := [7]) (by kernel_rfl) (by simp) ?_
          refine AllReady.cons rfl (fun K hK => ?_) ?_
          · go_simp
            refine (set_any HS2.out p.1 HP.out.1 (.slice adl p.2.2.length capl) p.2.2 HP.out.2.2 HP.out.2.1 (by omega)).mono ?_
            rintro e w5 ⟨rfl, u, K5, hS5, hT5⟩
            refine hK _ _ ?_
            clear hK K
            try simp only [Act.put, List.getElem_toArray, List.getElem_cons_succ, List.getElem_cons_zero, List.setIfInBounds_toArray, List.set_cons_zero, List.set_cons_succ]
            refine wpAny_done (by kernel_rfl) ?_ _
            go_wp2_with fail
            exact ⟨⟨k + 1, by simp, by omega, K5, _, HF.out w5 u K5 hS5 hT5⟩, by simp [intOf]; omega⟩
          exact AllReady.nil
        exact AllReady.nil
      exact AllReady.nil
    · have hkz : k = X.length := by omega
      subst hkz
      go_wp2_with fail
      go_ret
      obtain ⟨r1, r2, r3, r4, r5⟩ := HR.out
      rw [List.take_length] at r2
      exact ⟨sb, vb, fb, K, V, rfl, r1, r2, r3, r4, r5⟩
end Go.Proofs.YtfafhjglcaikoaaGreatDoor
/-! The functions' names, sorted. -/
namespace Go.Proofs.YtfafhjglcaikoaaGreatDoor
open Go.RowKit Go.Maps Go.Sort Go.Shelf

theorem maps_keysV (mb : Option Nat) (W : World) : CallsIn Fence.wide 5 Tryz.prog 127 #[.map mb] W fun e w' => e = .returned (.func (.func 177) #[] #[.pointer (some ⟨W.heap.size, 0, none⟩)]) ∧ w' = W.alloc (.cells #[.map mb] 137) :=
  AnyZ.keys_in Tryz.keys127 Fence.wide 5 trivial rfl mb W
set_option maxHeartbeats 1000000 in
theorem sorted_keysV {H : Type} (b nn : Nat) (D0 : DataW H) (R : Value → Option (DataW H × List MemPlace)) (w : World) (hown : w.ownsMap Tryz.prog 9 R b nn D0) (hmax : Maps.size D0 ≤ maxLen) (hbytes : Maps.size D0 * 16 ≤ 140737488355328) :
    CallsIn Fence.wide 5 Tryz.prog 126 #[.func (.func 177) #[] #[.pointer (some ⟨w.heap.size, 0, none⟩)]] (w.alloc (.cells #[.map (some b)] 137)) fun e w' => ∃ (v : Value) (ss : List (List UInt8)), e = .returned v ∧ ss.Perm (strKeys D0) ∧
      w'.ownsRow (w.alloc (.cells #[.map (some b)] 137)).heap.size 9 1 v ss.length ((ss.mergeSort (fun x y => decide (x ≤ y))).map encStr) ∧ (v = .slice none 0 0 ↔ ss = []) ∧ Below (w.alloc (.cells #[.map (some b)] 137)).heap.size (w.alloc (.cells #[.map (some b)] 137)) w' := by
  have hbl := hown.lt
  have hseq : SeqGives Fence.wide 2 Tryz.prog 177 #[.pointer (some ⟨w.heap.size, 0, none⟩)] encStr (fun ss => ss.Perm (strKeys D0)) (Maps.size D0) (w.alloc (.cells #[.map (some b)] 137)) :=
    AnyZ.keys_gives (ρ := Tryz.keys127_ren) { Tryz.keys127 with } Fence.wide _ trivial rfl (by omega) w.heap.size b nn D0 _ (by simp) (by simp) (by
      obtain ⟨es, clock, hb, Ft, hs, hD⟩ := hown
      exact ⟨es, clock, (Below.heap_alloc _ _ b hbl).trans hb, Ft, hs, hD⟩)
  exact AnyZ.sorted_in Tryz.sorted126 Fence.wide 5 trivial trivial trivial trivial rfl (by omega) (sorts126 _) (enters_of Tryz.func176 (by kernel_rfl) rfl) 177 #[.pointer (some ⟨w.heap.size, 0, none⟩)] trivial (enters_of Tryz.func177 (by kernel_rfl) rfl) _ _ hmax hbytes _ hseq
theorem sorted_namesS {α : Type} {W : World} {b n : Nat} {F : List (Txt × Value × α)} (h : W.ownsMap Tryz.prog 9 hE b n (dM F)) (ss : List (List UInt8)) (hs : ss.Perm (strKeys (dM F))) : ss.mergeSort (fun x y => decide (x ≤ y)) = F.map Prod.fst := by
  rw [dM_keys] at hs
  have hF := map_rising h
  refine (mergeSort_of_perm hs).trans (List.mergeSort_of_pairwise ?_)
  rw [List.pairwise_map]
  exact hF.imp fun {a b} hab => decide_eq_true (bytes_le _ _ hab)
variable {W : World} {K : Nat → Prop} {sb vb fb : Nat} {V : Vrs} {G : Fns}
end Go.Proofs.YtfafhjglcaikoaaGreatDoor
namespace Go.Proofs.YtfafhjglcaikoaaGreatDoor
open Go.RowKit Go.Maps Go.Sort Go.Shelf

theorem keysV (mb : Option Nat) (W : World) : Calls Tryz.prog 127 #[.map mb] W fun e w' => e = .returned (.func (.func 177) #[] #[.pointer (some ⟨W.heap.size, 0, none⟩)]) ∧ w' = W.alloc (.cells #[.map mb] 137) :=
  (callsIn_wide (n := 5)).1 (maps_keysV mb W)
theorem sortedV {W : World} {vb : Nat} {V : Vrs} (hm : W.ownsMap Tryz.prog 9 hE vb V.length (dM V)) (hV : V.length < 4294967296) :
    Calls Tryz.prog 126 #[.func (.func 177) #[] #[.pointer (some ⟨W.heap.size, 0, none⟩)]] (W.alloc (.cells #[.map (some vb)] 137)) fun e w' => ∃ v, e = .returned v ∧ w'.ownsRow W.heap.size 9 1 v (V.map Prod.fst).length (txV (V.map Prod.fst)) ∧ Below W.heap.size W w' := by
  have hz : Maps.size (dM V) ≤ maxLen ∧ Maps.size (dM V) * 16 ≤ 140737488355328 := by
    rw [dM_size]
    have := maxLen_big
    omega
  refine ((callsIn_wide (n := 5)).1 (sorted_keysV vb V.length (dM V) hE W hm hz.1 hz.2)).mono ?_
  rintro e w2 ⟨v, ss, rfl, hS, hrow, hnil, hb⟩
  have hn := sorted_namesS hm ss hS
  have hl : ss.length = (V.map Prod.fst).length := by rw [← hn, List.length_mergeSort]
  rw [hn, enc_tx, hl] at hrow
  exact ⟨v, rfl, owns_lower hrow (by simp), (below_new _ _).trans (hb.mono (by simp))⟩

theorem info34 : (Tryz.prog.info? 75).map (fun i => (i.zero, i.size, i.bytes)) = some (some (.agg #[.string ⟨#[]⟩, .slice none 0 0]), 2, 40) := by kernel_rfl
def vaCs (Y : Vrs) : List Value := Y.flatMap fun p => [str p.1, p.2.1]
theorem vaCs_snoc (Y : Vrs) (p : Txt × Value × List Txt) : vaCs (Y ++ [p]) = vaCs Y ++ [str p.1, p.2.1] := by simp [vaCs]
/-- Values of one's own. -/
def VaOwn (W : World) (B : Nat) (v : Value) (Y : Vrs) : Prop := W.ownsRow B 75 2 v Y.length (vaCs Y) ∧ ∀ p ∈ Y, W.ownsRow B 9 1 p.2.1 p.2.2.length (txV p.2.2)
theorem VaOwn.nil (W : World) (B : Nat) : VaOwn W B (.slice none 0 0) [] := ⟨World.ownsRow_nil _ _ _ _, fun p hp => by simp at hp⟩
theorem VaOwn.below {W W' : World} {B : Nat} {v : Value} {Y : Vrs} (h : VaOwn W B v Y) (hb : Below W.heap.size W W') : VaOwn W' B v Y :=
  ⟨owns_turn h.1 (Turn.ofBelow (S := fun _ => False) hb) (fun _ _ h => h), fun p hp => owns_turn (h.2 p hp) (Turn.ofBelow (S := fun _ => False) hb) (fun _ _ h => h)⟩
/-- One more behind. -/
theorem VaOwn.snoc {W w2 w4 : World} {B : Nat} {v v' pv : Value} {Y : Vrs} {n : Txt} {l : List Txt} {o : Obj} (h : VaOwn W B v Y) (hb2 : Below W.heap.size W w2) (hB : B ≤ W.heap.size) (hp : w2.ownsRow W.heap.size 9 1 pv l.length (txV l))
    (hown : w4.ownsRow B 75 2 v' (Y.length + 1) (vaCs Y ++ [str n, pv])) (hg : (w2.alloc o).grownBy w4 v.ownBlock) :
    VaOwn w4 B v' (Y ++ [(n, pv, l)]) ∧ Below B W w4 ∧ ∀ {C k m : Nat} {u : Value} {xs : List Value}, W.ownsRow C 9 k u m xs → w4.ownsRow C 9 k u m xs := by
  have hb3 := hb2.alloc hb2.size o
  have h3 : VaOwn (w2.alloc o) B v Y := h.below hb3
  have hp3 : (w2.alloc o).ownsRow B 9 1 pv l.length (txV l) := owns_lower (owns_turn hp (Turn.ofBelow (S := fun _ => False) (below_new w2 o)) (fun _ _ h => h)) hB
  have hT := Turn.ofGrown hg
  have key : ∀ {C k m : Nat} {u : Value} {xs : List Value}, (w2.alloc o).ownsRow C 9 k u m xs → w4.ownsRow C 9 k u m xs := fun ho => owns_turn ho hT (fun b hb e' => owns_apart2 h3.1 ho (by decide) b e' hb)
  refine ⟨⟨by rw [vaCs_snoc, List.length_append]; exact hown, fun p hq => ?_⟩, ?_, fun ho => key (owns_turn ho (Turn.ofBelow (S := fun _ => False) hb3) (fun _ _ h => h))⟩
  · rcases List.mem_append.1 hq with hq | hq
    · exact key (h3.2 p hq)
    · simp only [List.mem_singleton] at hq
      subst hq
      exact key hp3
  · exact grown_own (Nat.le_trans hB hb3.size) (hb3.mono hB) h3.1 hg
theorem vaC_one (n : Txt) (ad : Option Addr) (m : Nat) {cap : Nat} : ∀ u ∈ [str n, Value.slice ad m cap], u.oneCell' = true := by
  intro u hu
  simp at hu
  rcases hu with rfl | rfl <;> rfl
def noStar {α : Type} (F : List (Txt × α)) : List (Txt × α) := F.filter fun p => !(p.1 == star)
variable {W : World} {K : Nat → Prop} {sb vb fb : Nat} {V : Vrs} {G : Fns}
theorem noStar_take_yes {V : Vrs} {k : Nat} {p : Txt × Value × List Txt} (hp : V[k]? = some p) (h : (p.1 == star) = false) : noStar (cont (V.take (k + 1))) = noStar (cont (V.take k)) ++ [(p.1, p.2.2)] := by
  rw [List.take_add_one, hp]
  simp [cont, noStar, h]
theorem noStar_take_no {V : Vrs} {k : Nat} {p : Txt × Value × List Txt} (hp : V[k]? = some p) (h : (p.1 == star) = true) : noStar (cont (V.take (k + 1))) = noStar (cont (V.take k)) := by
  rw [List.take_add_one, hp]
  simp [cont, noStar, h]
theorem getM_at {α : Type} {F : List (Txt × α)} (hF : F.Pairwise fun p q => bytesBefore p.1 q.1 = true) {p : Txt × α} (hp : p ∈ F) (z : α) : getM F p.1 z = p.2 := by
  have hh : hasM F p.1 = true := List.any_eq_true.2 ⟨p, hp, by simp⟩
  have hm := getM_mem (z := z) hh
  have irr : ∀ a : Txt, bytesBefore a a = false := by
    intro a
    induction a with
    | nil => rfl
    | cons c r ih => simp [bytesBefore, ih]
  have uniq : ∀ {l : List (Txt × α)}, l.Pairwise (fun p q => bytesBefore p.1 q.1 = true) → ∀ {q r : Txt × α}, q ∈ l → r ∈ l → q.1 = r.1 → q = r := by
    intro l hl
    induction hl with
    | nil => intro q r hq; simp at hq
    | cons hx _ ih =>
      intro q r hq hr e
      rcases List.mem_cons.1 hq with rfl | hq2 <;> rcases List.mem_cons.1 hr with rfl | hr2
      · rfl
      · have := hx r hr2
        rw [e, irr] at this
        cases this
      · have := hx q hq2
        rw [← e, irr] at this
        cases this
      · exact ih hq2 hr2 e
  have := uniq hF hm hp rfl
  exact (Prod.ext_iff.1 this).2
set_option maxRecDepth 100000 in
set_option maxHeartbeats 2000000 in
theorem vars_any (h : Sto W K sb vb fb V G) (hV : V.length < 4294967296) (hn : ∀ p ∈ V, p.1.length ≤ maxLen) :
    Calls Tryz.prog 82 #[sP sb] W fun e w' => ∃ v' Y, e = .returned v' ∧ VaOwn w' W.heap.size v' Y ∧ cont Y = noStar (cont V) ∧ Below W.heap.size W w' := by
  obtain ⟨i0, hi0, hz0, hz1, hz2⟩ := info_parts info34
  have c1 : W.cell? ⟨sb, 0, none⟩ = some (.map (some vb)) := h.sc.cell 0
  have HH : Hid (∀ W', Below W.heap.size W W' → Sto W' K sb vb fb V G) := fun W' hb => h.below hb
  have HN : Hid (∀ p ∈ V, p.1.length ≤ maxLen) := hn
  have HR : Hid (V.Pairwise fun p q => bytesBefore p.1 q.1 = true) := map_rising h.vm
  have HS : Hid (Calls Tryz.prog 126 #[.func (.func 177) #[] #[.pointer (some ⟨W.heap.size, 0, none⟩)]] (W.alloc (.cells #[.map (some vb)] 137)) fun e w' => ∃ v, e = .returned v ∧ w'.ownsRow W.heap.size 9 1 v (V.map Prod.fst).length (txV (V.map Prod.fst)) ∧ Below W.heap.size W w') := sortedV h.vm hV
  clear h hn
  go_enter Tryz.func82, Tryz.ntmps82
  go_wp2_with fail
  refine (keysV _ W).mono ?_
  rintro e w1 ⟨rfl, rfl⟩
  go_wp2_with fail
  refine Calls.mono HS.out ?_
  rintro e w2 ⟨vn, rfl, hon, hb2⟩
  have hll : (V.map Prod.fst).length = V.length := List.length_map _
  rw [hll] at hon
  obtain ⟨adn, capn, rfl⟩ := owns_slice hon
  have HON : Hid (w2.ownsRow W.heap.size 9 1 (.slice adn V.length capn) V.length (txV (V.map Prod.fst))) := hon
  clear hon hll HS c1
  go_wp2_with fail
  go_loopw [3, 5, 13] (fun v3 _ v13 wr => ∃ k : Nat, v13 = .int .i64 k ∧ k ≤ V.length ∧ ∃ Y, Hid (VaOwn wr W.heap.size v3 Y ∧ cont Y = noStar (cont (V.take k)) ∧ Y.length ≤ k ∧ wr.ownsRow W.heap.size 9 1 (.slice adn V.length capn) V.length (txV (V.map Prod.fst))) ∧ Below W.heap.size W wr) (fun _ _ v13 _ => V.length - (intOf v13).toNat)
  case atStart => exact ⟨0, rfl, Nat.zero_le _, [], ⟨VaOwn.nil _ _, rfl, Nat.le_refl _, HON.out⟩, hb2⟩
  case round =>
    obtain ⟨k, rfl, hk, Y, HI, hbr⟩ := hrel
    by_cases hkl : k < V.length
    · obtain ⟨p, hp⟩ : ∃ p, V[k]? = some p := ⟨_, List.getElem?_eq_getElem hkl⟩
      have hrow := HI.out.2.2.2
      have htx : Tx wr (.slice adn V.length capn) (V.map Prod.fst) := Tx.owned (B := W.heap.size) (by rw [List.length_map]; exact hrow)
      obtain ⟨g, o, cap', hv, _, hg, hce⟩ := htx.inRow (fun e => by
        have := congrArg List.length e
        simp at this
        rw [this] at hkl
        simp at hkl)
      rw [List.length_map] at hv
      cases hv
      have c0 := hce k p.1 (by rw [List.getElem?_map, hp]; rfl)
      have cs : wr.cell? ⟨sb, 0, none⟩ = some (.map (some vb)) := (HH.out _ hbr).sc.cell 0
      clear hce hg htx hrow
      cases hs : (p.1 == star) with
      | true =>
        have hs' : (p.1 == [42]) = true := hs
        have HE := noStar_take_no hp hs
        go_wp2_with fail
        refine ⟨⟨k + 1, by simp, by omega, Y, ⟨HI.out.1, HI.out.2.1.trans HE.symm, Nat.le_succ_of_le HI.out.2.2.1, HI.out.2.2.2⟩, hbr⟩, by simp [intOf]; omega⟩
      | false =>
        have hs' : (p.1 == [42]) = false := hs
        have HE : Hid (noStar (cont (V.take (k + 1))) = noStar (cont (V.take k)) ++ [(p.1, p.2.2)]) := noStar_take_yes hp hs
        have hpm := List.mem_of_getElem? hp
        have hlk := lookV (HH.out _ hbr).vm p.1 (HN.out p hpm) false
        simp only [Bool.false_eq_true, if_false, getM_at HR.out hpm] at hlk
        have hot := (HH.out _ hbr).vt p hpm
        obtain ⟨adp, capp, hvp⟩ := hot.tx.form
        rw [hvp] at hlk
        have HC : Hid (Calls Tryz.prog 100 #[.slice adp p.2.2.length capp] wr fun e w' => ∃ v', e = .returned v' ∧ w'.ownsRow wr.heap.size 9 1 v' p.2.2.length (txV p.2.2) ∧ Below wr.heap.size wr w') := by
          unfold Hid
          rw [← hvp]
          exact cloneT_any _ _ _ hot.tx ((HH.out _ hbr).vl p hpm)
        have hyl := HI.out.2.2.1
        obtain ⟨ady, capy, rfl⟩ := owns_slice HI.out.1.1
        clear hp hpm hot hvp
        go_wp2_with fail
        refine Calls.mono HC.out ?_
        rintro e w3 ⟨v3, rfl, ho3, hb3⟩
        obtain ⟨ad3, cap3, rfl⟩ := owns_slice ho3
        have HO3 : Hid (w3.ownsRow wr.heap.size 9 1 (.slice ad3 p.2.2.length cap3) p.2.2.length (txV p.2.2)) := ho3
        have hoA : (w3.alloc (.cells #[str p.1, .slice ad3 p.2.2.length cap3] 75)).ownsRow W.heap.size 75 2 (.slice ady Y.length capy) Y.length (vaCs Y) := (HI.out.1.below (hb3.alloc hb3.size _)).1
        have hzb := Nat.le_trans hbr.size hb3.size
        clear ho3
        go_wp2_with (at_builtin; refine wpList_append_own_at _ rfl _ _ 28 rfl W.heap.size 75 i0 _ 2 40 Tryz.underlying28 hi0 hz0 hz1 hz2 rfl (by decide) _ _ _ rfl hoA ⟨w3.heap.size, 0, none⟩ 1 1 [str p.1, .slice ad3 p.2.2.length cap3] rfl rfl (cells_new w3 _ 75) (vaC_one _ _ _) (by have := maxLen_big; omega) (by omega) (Nat.le_trans hzb (below_new _ _).size) ?_; intro v2 w4 hown2 hgrow2 _ _)
        obtain ⟨q1, q2, q3⟩ := HI.out.1.snoc hb3 hbr.size HO3.out hown2 hgrow2
        refine ⟨⟨k + 1, by simp, by omega, _, ⟨q1, ?_, ?_, q3 HI.out.2.2.2⟩, hbr.trans q2⟩, by simp [intOf]; omega⟩
        · rw [HE.out, ← HI.out.2.1]
          simp [cont]
        · rw [List.length_append]
          simp
          omega
    · have hkz : k = V.length := by omega
      subst hkz
      go_wp2_with fail
      go_ret
      obtain ⟨q1, q2, _⟩ := HI.out
      rw [List.take_length] at q2
      exact ⟨_, Y, rfl, q1, q2, hbr⟩
end Go.Proofs.YtfafhjglcaikoaaGreatDoor
