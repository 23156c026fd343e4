/- A store is made. -/
import Derived.Test.YtikogljojnapaaaTell2
import Derived.Deep.Cut
namespace Go.Proofs.Ytikogljojnapaaa
open Go.RowKit

/-- Values that came in: names, and lists of texts. -/
def VaAt (W : World) (v : Value) (X : Vrs) : Prop := RowAt W v 2 (X.map fun p => [str p.1, p.2.1]) ∧ ∀ p ∈ X, Tx W p.2.1 p.2.2
theorem VaAt.below {W W' : World} {v : Value} {X : Vrs} {B : Nat} (h : VaAt W v X) (hb : Below B W W') (hB : W.heap.size ≤ B) : VaAt W' v X := ⟨RowAt.below h.1 hb hB, fun p hp => (h.2 p hp).below hb hB⟩
theorem VaAt.form {W : World} {v : Value} {X : Vrs} (h : VaAt W v X) : ∃ ad cap, v = .slice ad X.length cap := by
  obtain ⟨ad, cap, hv⟩ := RowAt.form h.1
  exact ⟨ad, cap, by rw [hv]; simp⟩
theorem VaAt.nil (W : World) : VaAt W (.slice none 0 0) [] := ⟨.inl ⟨rfl, .inl rfl⟩, fun p hp => by simp at hp⟩
theorem VaAt.at {W : World} {v : Value} {X : Vrs} (h : VaAt W v X) {j : Nat} {p : Txt × Value × List Txt} (hj : X[j]? = some p) : ∃ g o cap, v = .slice (some ⟨g, o, none⟩) X.length cap ∧ g < W.heap.size ∧
    W.cell? ⟨g, o + j * 2, none⟩ = some (str p.1) ∧ W.cell? ⟨g, o + j * 2 + 1, none⟩ = some p.2.1 ∧ Tx W p.2.1 p.2.2 := by
  rcases h.1 with ⟨h0, _⟩ | ⟨g, o, cap, h1, h2, h3, h4⟩
  · have : X = [] := by simpa using h0
    rw [this] at hj
    simp at hj
  · have hc := h4 j [str p.1, p.2.1] (by rw [List.getElem?_map, hj]; rfl)
    exact ⟨g, o, cap, by simpa using h1, h3, hc 0 _ rfl, hc 1 _ rfl, h.2 p (List.mem_of_getElem? hj)⟩
def startV : Vrs := [(star, .slice none 0 0, [])]
def newM (X : Vrs) : List (Txt × List Txt) := (cont X).foldl (fun F p => putM F p.1 p.2) [(star, [])]
theorem Sto.made {W w1 w2 : World} {vb : Nat} (hv : w1.ownsMap Try.prog 9 hE vb 1 (dM startV)) (hb1 : Below W.heap.size W w1) (_hlo : W.heap.size ≤ vb) (hf : w2.ownsMap Try.prog 9 hE (w1.heap.size + 1) 0 (dM ([] : Fns))) (hb2 : Below w1.heap.size w1 w2) :
    Sto (w2.alloc (.cells #[.map (some vb), .map (some (w1.heap.size + 1))] 51)) (fun i => i = vb ∨ i = w1.heap.size + 1 ∨ i = w2.heap.size) w2.heap.size vb (w1.heap.size + 1) startV [] ∧ Below W.heap.size W (w2.alloc (.cells #[.map (some vb), .map (some (w1.heap.size + 1))] 51)) := by
  have hvl := hv.lt
  have hfl := hf.lt
  have hb3 : Below w2.heap.size w2 (w2.alloc (.cells #[.map (some vb), .map (some (w1.heap.size + 1))] 51)) := below_new w2 _
  have hT3 := Turn.ofBelow (S := fun _ => False) hb3
  have hT2 := Turn.ofBelow (S := fun _ => False) hb2
  have hs2 := hb2.size
  refine ⟨⟨Cel.new w2 51 _, map_turn (map_turn hv hT2 (fun h => h)) hT3 (fun h => h), map_turn hf hT3 (fun h => h), ?_, fun p hp => by simp at hp, ?_, fun p hp => by simp at hp, .inr (.inr rfl), .inl rfl, .inr (.inl rfl), by omega, ?_⟩, ?_⟩
  · intro p hp
    unfold startV at hp
    simp only [List.mem_singleton] at hp
    subst hp
    exact ⟨World.ownsRow_nil _ _ _ _, fun b hb => by simp [Value.ownBlock] at hb⟩
  · intro p hp
    unfold startV at hp
    simp only [List.mem_singleton] at hp
    subst hp
    simp only [List.length_nil, Nat.zero_mul, Nat.zero_le]
  · intro i hi
    have : (w2.alloc (.cells #[.map (some vb), .map (some (w1.heap.size + 1))] 51)).heap.size = w2.heap.size + 1 := by simp
    rw [this]
    omega
  · exact (hb1.trans (hb2.mono hb1.size)).trans (hb3.mono (Nat.le_trans hb1.size hs2))
set_option maxRecDepth 100000 in
set_option maxHeartbeats 2000000 in
theorem new_any (v : Value) (X : Vrs) (W : World) (h : VaAt W v X) (hX : X.length < 65536) (hn : ∀ p ∈ X, p.1.length ≤ maxLen ∧ p.2.2.length * 16 ≤ big) :
    Calls Try.prog 8 #[v] W fun e w' => ∃ sb vb fb K V, e = .returned (sP sb) ∧ Sto w' K sb vb fb V [] ∧ cont V = newM X ∧ (∀ i, K i → W.heap.size ≤ i) ∧ V.length ≤ X.length + 1 ∧ Below W.heap.size W w' := by
  have HV : Hid (VaAt W v X) := h
  have HN : Hid (∀ p ∈ X, p.1.length ≤ maxLen ∧ p.2.2.length * 16 ≤ big) := hn
  obtain ⟨ad, cap, rfl⟩ := h.form
  clear h hn
  go_enter Try.func8, Try.ntmps8
  go_wp2_with fail
  refine (noVars W).mono ?_
  rintro e w1 ⟨rfl, hm1, hb1⟩
  go_wp2_with fail
  refine (noFuns w1).mono ?_
  rintro e w2 ⟨rfl, hm2, hb2⟩
  obtain ⟨hS, hB⟩ := Sto.made hm1 hb1 (by omega) hm2 hb2
  generalize hvb : W.heap.size + 1 = vb at hS hm1
  generalize hfb : w1.heap.size + 1 = fb at hS hm2
  go_wp2_with fail
  have hB' : Below W.heap.size W (w2.alloc (.cells #[.map (some vb), .map (some fb)] 51)) := by rw [← hvb, ← hfb]; exact hB
  have hlo : W.heap.size ≤ vb ∧ W.heap.size ≤ fb ∧ W.heap.size ≤ w2.heap.size := by
    have := hb1.size
    have := hb2.size
    omega
  clear hB hm1 hm2 hb1 hb2 hvb hfb
  generalize hw3 : w2.alloc (.cells #[.map (some vb), .map (some fb)] 51) = w3 at *
  generalize hsb : w2.heap.size = sb at *
  clear hw3 hsb
  have HS : Hid (Sto w3 (fun i => i = vb ∨ i = fb ∨ i = sb) sb vb fb startV []) := hS
  have HB : Hid (Below W.heap.size W w3 ∧ W.heap.size ≤ vb ∧ W.heap.size ≤ fb ∧ W.heap.size ≤ sb) := ⟨hB', hlo⟩
  clear hS hB' hlo
  go_loopw [5, 12] (fun _ v12 wr => ∃ k : Nat, v12 = .int .i64 k ∧ k ≤ X.length ∧ ∃ K V, Hid (Sto wr K sb vb fb V [] ∧ cont V = newM (X.take k) ∧ (∀ i, K i → W.heap.size ≤ i) ∧ V.length ≤ k + 1 ∧ Below W.heap.size W wr)) (fun _ v12 _ => X.length - (intOf v12).toNat)
  case atStart => exact ⟨0, rfl, Nat.zero_le _, _, _, HS.out, rfl, fun i hi => by have := HB.out; omega, Nat.le_refl _, HB.out.1⟩
  case round =>
    obtain ⟨k, rfl, hk, K, V, HR⟩ := hrel
    by_cases hkl : k < X.length
    · obtain ⟨p, hp⟩ : ∃ p, X[k]? = some p := ⟨_, List.getElem?_eq_getElem hkl⟩
      obtain ⟨g, o, cap', hv, hg, cn, cl, htx⟩ := HV.out.at hp
      cases hv
      have hbr := HR.out.2.2.2.2
      have c0 := (hbr.cell (p := ⟨g, o + k * 2, none⟩) hg).trans cn
      have c1 := (hbr.cell (p := ⟨g, o + k * 2 + 1, none⟩) hg).trans cl
      obtain ⟨adl, capl, hlv⟩ := htx.form
      rw [hlv] at c1
      have hpm := HN.out p (List.mem_of_getElem? hp)
      obtain ⟨W1, hW1⟩ : ∃ W1, W1 = (wr.alloc (.cells #[str p.1, .slice adl p.2.2.length capl] 34)).drew := ⟨_, rfl⟩
      have hbW : Below wr.heap.size wr W1 := by rw [hW1]; exact (below_new wr _).drew
      have HS2 : Hid (Sto W1 K sb vb fb V []) := HR.out.1.below hbW
      have HP : Hid (p.1.length ≤ maxLen ∧ p.2.2.length * 16 ≤ big ∧ Tx W1 (.slice adl p.2.2.length capl) p.2.2) := ⟨hpm.1, hpm.2, by rw [← hlv]; exact htx.below (hbr.trans (hbW.mono hbr.size)) (Nat.le_refl _)⟩
      have hVl : V.length ≤ k + 1 := HR.out.2.2.2.1
      have HF : Hid (∀ w5 u K5, Sto w5 K5 sb vb fb (putM V p.1 (u, p.2.2)) [] → Stp vb fb W1 K w5 K5 → Hid (Sto w5 K5 sb vb fb (putM V p.1 (u, p.2.2)) [] ∧ cont (putM V p.1 (u, p.2.2)) = newM (X.take (k + 1)) ∧ (∀ i, K5 i → W.heap.size ≤ i) ∧ (putM V p.1 (u, p.2.2)).length ≤ k + 1 + 1 ∧ Below W.heap.size W w5)) := by
        intro w5 u K5 h5 hs5
        obtain ⟨_, r2, r3, r4, r5⟩ := HR.out
        have hb1 : Below W.heap.size W W1 := r5.trans (hbW.mono r5.size)
        refine ⟨h5, ?_, fun i hi => (hs5.2 i hi).elim (r3 i) (fun h => Nat.le_trans hb1.size h), ?_, hb1.trans (hs5.below HB.out.2.1 HB.out.2.2.1 hb1.size)⟩
        · rw [cont_put, r2, newM, newM, List.take_add_one, hp]
          simp [cont]
        · have := length_putM V p.1 (u, p.2.2)
          omega
      have C5 : Cel W1 wr.heap.size 34 #[str p.1, .slice adl p.2.2.length capl] := by rw [hW1]; exact Cel.new wr 34 _
      have x0 := C5.cell 0
      have x1 := C5.cell 1
      clear cn cl htx hlv hpm C5 hbr hp hbW
      go_upto_region 5 with fail
      refine wp_region_any (by kernel_rfl) ?_
      try (change wpAny _ _ _ _ _ _ _ (World.drew _))
      rw [← hW1]
      clear hW1
      refine wpAny_take (i := 0) (v := sP sb) rfl (by kernel_rfl) (by kernel_rfl) (by kernel_rfl) (fun _ _ _ h => h) (Or.inl ⟨by rfl, by intro wz; go_simp⟩) ?_
      try simp only [Act.put, List.getElem_toArray, List.getElem_cons_zero, List.setIfInBounds_toArray, List.set_cons_zero, List.set_cons_succ]
      refine wpAny_take (i := 1) (v := sP sb) rfl (by kernel_rfl) (by kernel_rfl) (by kernel_rfl) (fun _ _ _ h => h) (Or.inl ⟨by rfl, by intro wz; go_simp⟩) ?_
      try simp only [Act.put, List.getElem_toArray, List.getElem_cons_succ, List.getElem_cons_zero, List.setIfInBounds_toArray, List.set_cons_zero, List.set_cons_succ]
      refine wpAny_take (i := 2) (v := sP sb) rfl (by kernel_rfl) (by kernel_rfl) (by kernel_rfl) (fun _ _ _ h => h) (Or.inl ⟨by rfl, by intro wz; go_simp⟩) ?_
      try simp only [Act.put, List.getElem_toArray, List.getElem_cons_succ, List.getElem_cons_zero, List.setIfInBounds_toArray, List.set_cons_zero, List.set_cons_succ]
      refine wpAny_take (i := 3) (v := .pointer (some ⟨wr.heap.size, 0, none⟩)) rfl (by kernel_rfl) (by kernel_rfl) (by kernel_rfl) (fun _ _ _ h => h) (Or.inl ⟨by rfl, by intro wz; go_simp⟩) ?_
      try simp only [Act.put, List.getElem_toArray, List.getElem_cons_succ, List.getElem_cons_zero, List.setIfInBounds_toArray, List.set_cons_zero, List.set_cons_succ]
      refine wpAny_take (i := 5) (v := .pointer (some ⟨wr.heap.size, 1, none⟩)) rfl (by kernel_rfl) (by kernel_rfl) (by kernel_rfl) (fun _ _ _ h => h) (Or.inl ⟨by rfl, by intro wz; go_simp⟩) ?_
      try simp only [Act.put, List.getElem_toArray, List.getElem_cons_succ, List.getElem_cons_zero, List.setIfInBounds_toArray, List.set_cons_zero, List.set_cons_succ]
      refine wpAny_ready (rs := [4, 6]) (by kernel_rfl) (by simp) ?_
      refine AllReady.cons rfl (fun K hK => ?_) ?_
      · go_simp
        refine hK _ _ ?_
        clear hK K
        try simp only [Act.put, List.getElem_toArray, List.getElem_cons_succ, List.getElem_cons_zero, List.setIfInBounds_toArray, List.set_cons_zero, List.set_cons_succ]
        refine wpAny_ready (rs := [6]) (by kernel_rfl) (by simp) ?_
        refine AllReady.cons rfl (fun K hK => ?_) ?_
        · go_simp
          refine hK _ _ ?_
          clear hK K
          try simp only [Act.put, List.getElem_toArray, List.getElem_cons_succ, List.getElem_cons_zero, List.setIfInBounds_toArray, List.set_cons_zero, List.set_cons_succ]
          refine wpAny_ready (rs := [7]) (by kernel_rfl) (by simp) ?_
          refine AllReady.cons rfl (fun K hK => ?_) ?_
          · go_simp
            refine (set_any HS2.out p.1 HP.out.1 (.slice adl p.2.2.length capl) p.2.2 HP.out.2.2 HP.out.2.1 (by omega)).mono ?_
            rintro e w5 ⟨rfl, u, K5, hS5, hT5⟩
            refine hK _ _ ?_
            clear hK K
            try simp only [Act.put, List.getElem_toArray, List.getElem_cons_succ, List.getElem_cons_zero, List.setIfInBounds_toArray, List.set_cons_zero, List.set_cons_succ]
            refine wpAny_done (by kernel_rfl) ?_ _
            go_wp2_with fail
            exact ⟨⟨k + 1, by simp, by omega, K5, _, HF.out w5 u K5 hS5 hT5⟩, by simp [intOf]; omega⟩
          exact AllReady.nil
        exact AllReady.nil
      refine AllReady.cons rfl (fun K hK => ?_) ?_
      · go_simp
        refine hK _ _ ?_
        clear hK K
        try simp only [Act.put, List.getElem_toArray, List.getElem_cons_succ, List.getElem_cons_zero, List.setIfInBounds_toArray, List.set_cons_zero, List.set_cons_succ]
        refine wpAny_ready (rs := [4]) (by kernel_rfl) (by simp) ?_
        refine AllReady.cons rfl (fun K hK => ?_) ?_
        · go_simp
          refine hK _ _ ?_
          clear hK K
          try simp only [Act.put, List.getElem_toArray, List.getElem_cons_succ, List.getElem_cons_zero, List.setIfInBounds_toArray, List.set_cons_zero, List.set_cons_succ]
          refine wpAny_ready (rs := [7]) (by kernel_rfl) (by simp) ?_
          refine AllReady.cons rfl (fun K hK => ?_) ?_
          · go_simp
            refine (set_any HS2.out p.1 HP.out.1 (.slice adl p.2.2.length capl) p.2.2 HP.out.2.2 HP.out.2.1 (by omega)).mono ?_
            rintro e w5 ⟨rfl, u, K5, hS5, hT5⟩
            refine hK _ _ ?_
            clear hK K
            try simp only [Act.put, List.getElem_toArray, List.getElem_cons_succ, List.getElem_cons_zero, List.setIfInBounds_toArray, List.set_cons_zero, List.set_cons_succ]
            refine wpAny_done (by kernel_rfl) ?_ _
            go_wp2_with fail
            exact ⟨⟨k + 1, by simp, by omega, K5, _, HF.out w5 u K5 hS5 hT5⟩, by simp [intOf]; omega⟩
          exact AllReady.nil
        exact AllReady.nil
      exact AllReady.nil
    · have hkz : k = X.length := by omega
      subst hkz
      go_wp2_with fail
      go_ret
      obtain ⟨r1, r2, r3, r4, r5⟩ := HR.out
      rw [List.take_length] at r2
      exact ⟨sb, vb, fb, K, V, rfl, r1, r2, r3, r4, r5⟩
end Go.Proofs.Ytikogljojnapaaa
