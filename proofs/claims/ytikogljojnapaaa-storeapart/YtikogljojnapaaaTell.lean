/- What a store is told. -/
import Derived.Test.YtikogljojnapaaaClone
namespace Go.Proofs.Ytikogljojnapaaa
open Go.RowKit

/-- A map is written, at its operation, in whatever walk. -/
theorem step_mapUpdate {o : Oper} {a : Act} {w : World} {K : Act → World → Prop} {Q : Exit → Act → World → Prop} (m x v : Operand) (t : TypeId) (hop : o.op = Op.mapUpdate t m x v) {e : TypeId}
    (ht : Try.prog.underlying t = some (.map 9 e)) (b n : Nat) (D : DataW Value) (hm : a.eval m = .map (some b)) (hown : w.ownsMap Try.prog 9 hE b n D) (hn : n < maxLen) (key val : Value) (kl : Lit) (hx : a.eval x = key) (hv : a.eval v = val) (hkey : keyOf Try.prog 9 key = some kl)
    (hK : ∀ w', w'.ownsMap Try.prog 9 hE b (n + 1) (D.put kl (.held val)) → w.grownBy w' (some b) → K (a.put o.dst undef) w') : Oper.wp Try.prog o a w K Q := by
  obtain ⟨w', hrun, r1, r2⟩ := hown.update key9 ht hn hkey (val := val) (d := .held val) (ps := []) rfl
  unfold Oper.wp
  simp [execOp, hop, hm, hx, hv, hrun, Result.andThen]
  exact hK w' r1 r2
variable {W : World} {K : Nat → Prop} {sb vb fb : Nat} {V : Vrs} {G : Fns}
theorem tx_b {W W' : World} {v : Value} {l : List Txt} (h : Tx W v l) (hb : Below W.heap.size W W') : Tx W' v l := h.below hb (Nat.le_refl _)
theorem nd_b {W W' : World} {v : Value} {l : List Nd} (h : NdAt W v l) (hb : Below W.heap.size W W') : NdAt W' v l := h.below hb (Nat.le_refl _)
theorem set_fin {w2 w3 : World} {v2 : Value} {l : List Txt} {k : Txt} {n : Nat} (hl : l.length * 16 ≤ big) (h2 : Sto w2 K sb vb fb V G) (hb2 : Below W.heap.size W w2) (ho : w2.ownsRow W.heap.size 9 1 v2 l.length (txV l))
    (hm : w3.ownsMap Try.prog 9 hE vb n ((dM V).put (.string k) (.held v2))) (hg : w2.grownBy w3 (some vb)) : ∃ v' K', Sto w3 K' sb vb fb (putM V k (v', l)) G ∧ Stp vb fb W K w3 K' := by
  obtain ⟨h3, hT⟩ := h2.vput hl (owns_lower ho (Nat.zero_le _)) hm hg
  exact ⟨v2, _, h3, (Turn.ofBelow hb2).trans hT (fun _ hi _ => hi), fun i hi => hi.elim .inl (fun e => .inr (ho.lt i e).1)⟩
set_option maxRecDepth 100000 in
set_option maxHeartbeats 1000000 in
theorem set_any (h : Sto W K sb vb fb V G) (k : Txt) (hk : k.length ≤ maxLen) (v : Value) (l : List Txt) (ht : Tx W v l) (hl : l.length * 16 ≤ big) (hV : V.length < 4294967296) :
    Calls Try.prog 19 #[sP sb, str k, v] W fun e w' => e = .returned (.tuple #[]) ∧ ∃ v' K', Sto w' K' sb vb fb (putM V k (v', l)) G ∧ Stp vb fb W K w' K' := by
  have HH : Hid (∀ W', Below W.heap.size W W' → Sto W' K sb vb fb V G) := fun W' hb => h.below hb
  have HT : Hid (Tx W v l) := ht
  have HL : Hid (l.length * 16 ≤ big) := hl
  have c0 : W.cell? ⟨sb, 0, none⟩ = some (.map (some vb)) := h.sc.cell 0
  obtain ⟨ad, cap, rfl⟩ := ht.form
  clear h ht hl
  go_enter Try.func19, Try.ntmps19
  refine wp_region_any (by kernel_rfl) ?_
  try (change wpAny _ _ _ _ _ _ _ (World.drew _))
  refine wpAny_take (i := 0) (v := sP sb) rfl (by kernel_rfl) (by kernel_rfl) (by kernel_rfl) (fun _ _ _ h => h) (Or.inl ⟨by rfl, by intro wz; go_simp⟩) ?_
  try simp only [Act.put, List.getElem_toArray, List.getElem_cons_zero, List.setIfInBounds_toArray, List.set_cons_zero, List.set_cons_succ]
  refine wpAny_take (i := 1) (v := sP sb) rfl (by kernel_rfl) (by kernel_rfl) (by kernel_rfl) (fun _ _ _ h => h) (Or.inl ⟨by rfl, by intro wz; go_simp⟩) ?_
  try simp only [Act.put, List.getElem_toArray, List.getElem_cons_succ, List.getElem_cons_zero, List.setIfInBounds_toArray, List.set_cons_zero, List.set_cons_succ]
  refine wpAny_take (i := 2) (v := sP sb) rfl (by kernel_rfl) (by kernel_rfl) (by kernel_rfl) (fun _ _ _ h => h) (Or.inl ⟨by rfl, by intro wz; go_simp⟩) ?_
  try simp only [Act.put, List.getElem_toArray, List.getElem_cons_succ, List.getElem_cons_zero, List.setIfInBounds_toArray, List.set_cons_zero, List.set_cons_succ]
  refine wpAny_take (i := 4) (v := str k) rfl (by kernel_rfl) (by kernel_rfl) (by kernel_rfl) (fun _ _ _ h => h) (Or.inl ⟨by rfl, by intro wz; go_simp⟩) ?_
  try simp only [Act.put, List.getElem_toArray, List.getElem_cons_succ, List.getElem_cons_zero, List.setIfInBounds_toArray, List.set_cons_zero, List.set_cons_succ]
  refine wpAny_take (i := 5) (v := .slice ad l.length cap) rfl (by kernel_rfl) (by kernel_rfl) (by kernel_rfl) (fun _ _ _ h => h) (Or.inl ⟨by rfl, by intro wz; go_simp⟩) ?_
  try simp only [Act.put, List.getElem_toArray, List.getElem_cons_succ, List.getElem_cons_zero, List.setIfInBounds_toArray, List.set_cons_zero, List.set_cons_succ]
  have hbd : Below W.heap.size W W.drew := (Below.refl _ W).drew
  refine wpAny_ready (rs := [3, 6]) (by kernel_rfl) (by simp) ?_
  refine AllReady.cons rfl (fun K hK => ?_) ?_
  · go_simp
    refine hK _ _ ?_
    clear hK K
    try simp only [Act.put, List.getElem_toArray, List.getElem_cons_succ, List.getElem_cons_zero, List.setIfInBounds_toArray, List.set_cons_zero, List.set_cons_succ]
    refine wpAny_ready (rs := [6]) (by kernel_rfl) (by simp) ?_
    refine AllReady.cons rfl (fun K hK => ?_) ?_
    · go_simp
      refine (cloneT_any _ l W.drew (tx_b HT.out hbd) HL.out).mono ?_
      rintro r w2 ⟨v2, rfl, ho2, hb2'⟩
      refine hK _ _ ?_
      clear hK K
      try simp only [Act.put, List.getElem_toArray, List.getElem_cons_succ, List.getElem_cons_zero, List.setIfInBounds_toArray, List.set_cons_zero, List.set_cons_succ]
      have hb2 : Below W.heap.size W w2 := hbd.trans hb2'
      refine wpAny_ready (rs := [7]) (by kernel_rfl) (by simp) ?_
      refine AllReady.cons rfl (fun K hK => ?_) ?_
      · refine step_mapUpdate _ _ _ 44 rfl Try.underlying44 vb V.length (dM V) rfl (HH.out _ hb2).vm (by have := maxLen_big; omega) (str k) v2 (.string k) rfl rfl (keyOf9 k hk) ?_
        intro w3 hm hg
        refine hK _ _ ?_
        clear hK K
        try simp only [Act.put]
        refine wpAny_done (by kernel_rfl) ?_ _
        go_wp2_with fail
        go_end0
        exact ⟨rfl, set_fin HL.out (HH.out _ hb2) hb2 ho2 hm hg⟩
      exact AllReady.nil
    exact AllReady.nil
  refine AllReady.cons rfl (fun K hK => ?_) ?_
  · go_simp
    refine (cloneT_any _ l W.drew (tx_b HT.out hbd) HL.out).mono ?_
    rintro r w2 ⟨v2, rfl, ho2, hb2'⟩
    refine hK _ _ ?_
    clear hK K
    try simp only [Act.put, List.getElem_toArray, List.getElem_cons_succ, List.getElem_cons_zero, List.setIfInBounds_toArray, List.set_cons_zero, List.set_cons_succ]
    have hb2 : Below W.heap.size W w2 := hbd.trans hb2'
    have c2 : w2.cell? ⟨sb, 0, none⟩ = some (.map (some vb)) := (HH.out _ hb2).sc.cell 0
    refine wpAny_ready (rs := [3]) (by kernel_rfl) (by simp) ?_
    refine AllReady.cons rfl (fun K hK => ?_) ?_
    · go_simp
      refine hK _ _ ?_
      clear hK K
      try simp only [Act.put, List.getElem_toArray, List.getElem_cons_succ, List.getElem_cons_zero, List.setIfInBounds_toArray, List.set_cons_zero, List.set_cons_succ]
      refine wpAny_ready (rs := [7]) (by kernel_rfl) (by simp) ?_
      refine AllReady.cons rfl (fun K hK => ?_) ?_
      · refine step_mapUpdate _ _ _ 44 rfl Try.underlying44 vb V.length (dM V) rfl (HH.out _ hb2).vm (by have := maxLen_big; omega) (str k) v2 (.string k) rfl rfl (keyOf9 k hk) ?_
        intro w3 hm hg
        refine hK _ _ ?_
        clear hK K
        try simp only [Act.put]
        refine wpAny_done (by kernel_rfl) ?_ _
        go_wp2_with fail
        go_end0
        exact ⟨rfl, set_fin HL.out (HH.out _ hb2) hb2 ho2 hm hg⟩
      exact AllReady.nil
    exact AllReady.nil
  exact AllReady.nil
theorem setFun_fin {w2 w3 : World} {v2 : Value} {l : List Nd} {k : Txt} {n : Nat} (hl : l.length < 4294967296) (h2 : Sto w2 K sb vb fb V G) (hb2 : Below W.heap.size W w2) (ho : NdOwn w2 W.heap.size v2 l)
    (hm : w3.ownsMap Try.prog 9 hE fb n ((dM G).put (.string k) (.held v2))) (hg : w2.grownBy w3 (some fb)) : ∃ v' K', Sto w3 K' sb vb fb V (putM G k (v', l)) ∧ Stp vb fb W K w3 K' := by
  obtain ⟨h3, hT⟩ := h2.fput hl (owns_lower ho (Nat.zero_le _)) hm hg
  exact ⟨v2, _, h3, (Turn.ofBelow hb2).trans hT (fun _ hi _ => hi), fun i hi => hi.elim .inl (fun e => .inr (ho.lt i e).1)⟩
set_option maxRecDepth 100000 in
set_option maxHeartbeats 1000000 in
theorem setFun_any (h : Sto W K sb vb fb V G) (k : Txt) (hk : k.length ≤ maxLen) (v : Value) (l : List Nd) (ht : NdAt W v l) (hl : l.length < 4294967296) (hV : G.length < 4294967296) :
    Calls Try.prog 18 #[fP sb, str k, v] W fun e w' => e = .returned (.tuple #[]) ∧ ∃ v' K', Sto w' K' sb vb fb V (putM G k (v', l)) ∧ Stp vb fb W K w' K' := by
  have HH : Hid (∀ W', Below W.heap.size W W' → Sto W' K sb vb fb V G) := fun W' hb => h.below hb
  have HT : Hid (NdAt W v l) := ht
  have HL : Hid (l.length < 4294967296) := hl
  have c0 : W.cell? ⟨sb, 1, none⟩ = some (.map (some fb)) := h.sc.cell 1
  obtain ⟨ad, cap, rfl⟩ := ht.form
  clear h ht hl
  go_enter Try.func18, Try.ntmps18
  refine wp_region_any (by kernel_rfl) ?_
  try (change wpAny _ _ _ _ _ _ _ (World.drew _))
  refine wpAny_take (i := 0) (v := fP sb) rfl (by kernel_rfl) (by kernel_rfl) (by kernel_rfl) (fun _ _ _ h => h) (Or.inl ⟨by rfl, by intro wz; go_simp⟩) ?_
  try simp only [Act.put, List.getElem_toArray, List.getElem_cons_zero, List.setIfInBounds_toArray, List.set_cons_zero, List.set_cons_succ]
  refine wpAny_take (i := 1) (v := fP sb) rfl (by kernel_rfl) (by kernel_rfl) (by kernel_rfl) (fun _ _ _ h => h) (Or.inl ⟨by rfl, by intro wz; go_simp⟩) ?_
  try simp only [Act.put, List.getElem_toArray, List.getElem_cons_succ, List.getElem_cons_zero, List.setIfInBounds_toArray, List.set_cons_zero, List.set_cons_succ]
  refine wpAny_take (i := 2) (v := fP sb) rfl (by kernel_rfl) (by kernel_rfl) (by kernel_rfl) (fun _ _ _ h => h) (Or.inl ⟨by rfl, by intro wz; go_simp⟩) ?_
  try simp only [Act.put, List.getElem_toArray, List.getElem_cons_succ, List.getElem_cons_zero, List.setIfInBounds_toArray, List.set_cons_zero, List.set_cons_succ]
  refine wpAny_take (i := 4) (v := str k) rfl (by kernel_rfl) (by kernel_rfl) (by kernel_rfl) (fun _ _ _ h => h) (Or.inl ⟨by rfl, by intro wz; go_simp⟩) ?_
  try simp only [Act.put, List.getElem_toArray, List.getElem_cons_succ, List.getElem_cons_zero, List.setIfInBounds_toArray, List.set_cons_zero, List.set_cons_succ]
  refine wpAny_take (i := 5) (v := .slice ad l.length cap) rfl (by kernel_rfl) (by kernel_rfl) (by kernel_rfl) (fun _ _ _ h => h) (Or.inl ⟨by rfl, by intro wz; go_simp⟩) ?_
  try simp only [Act.put, List.getElem_toArray, List.getElem_cons_succ, List.getElem_cons_zero, List.setIfInBounds_toArray, List.set_cons_zero, List.set_cons_succ]
  have hbd : Below W.heap.size W W.drew := (Below.refl _ W).drew
  refine wpAny_ready (rs := [3, 6]) (by kernel_rfl) (by simp) ?_
  refine AllReady.cons rfl (fun K hK => ?_) ?_
  · go_simp
    refine hK _ _ ?_
    clear hK K
    try simp only [Act.put, List.getElem_toArray, List.getElem_cons_succ, List.getElem_cons_zero, List.setIfInBounds_toArray, List.set_cons_zero, List.set_cons_succ]
    refine wpAny_ready (rs := [6]) (by kernel_rfl) (by simp) ?_
    refine AllReady.cons rfl (fun K hK => ?_) ?_
    · go_simp
      refine (cloneN_any _ l W.drew (nd_b HT.out hbd) HL.out).mono ?_
      rintro r w2 ⟨v2, rfl, ho2, hb2'⟩
      refine hK _ _ ?_
      clear hK K
      try simp only [Act.put, List.getElem_toArray, List.getElem_cons_succ, List.getElem_cons_zero, List.setIfInBounds_toArray, List.set_cons_zero, List.set_cons_succ]
      have hb2 : Below W.heap.size W w2 := hbd.trans hb2'
      refine wpAny_ready (rs := [7]) (by kernel_rfl) (by simp) ?_
      refine AllReady.cons rfl (fun K hK => ?_) ?_
      · refine step_mapUpdate _ _ _ 47 rfl Try.underlying47 fb G.length (dM G) rfl (HH.out _ hb2).fm (by have := maxLen_big; omega) (str k) v2 (.string k) rfl rfl (keyOf9 k hk) ?_
        intro w3 hm hg
        refine hK _ _ ?_
        clear hK K
        try simp only [Act.put]
        refine wpAny_done (by kernel_rfl) ?_ _
        go_wp2_with fail
        go_end0
        exact ⟨rfl, setFun_fin HL.out (HH.out _ hb2) hb2 ho2 hm hg⟩
      exact AllReady.nil
    exact AllReady.nil
  refine AllReady.cons rfl (fun K hK => ?_) ?_
  · go_simp
    refine (cloneN_any _ l W.drew (nd_b HT.out hbd) HL.out).mono ?_
    rintro r w2 ⟨v2, rfl, ho2, hb2'⟩
    refine hK _ _ ?_
    clear hK K
    try simp only [Act.put, List.getElem_toArray, List.getElem_cons_succ, List.getElem_cons_zero, List.setIfInBounds_toArray, List.set_cons_zero, List.set_cons_succ]
    have hb2 : Below W.heap.size W w2 := hbd.trans hb2'
    have c2 : w2.cell? ⟨sb, 1, none⟩ = some (.map (some fb)) := (HH.out _ hb2).sc.cell 1
    refine wpAny_ready (rs := [3]) (by kernel_rfl) (by simp) ?_
    refine AllReady.cons rfl (fun K hK => ?_) ?_
    · go_simp
      refine hK _ _ ?_
      clear hK K
      try simp only [Act.put, List.getElem_toArray, List.getElem_cons_succ, List.getElem_cons_zero, List.setIfInBounds_toArray, List.set_cons_zero, List.set_cons_succ]
      refine wpAny_ready (rs := [7]) (by kernel_rfl) (by simp) ?_
      refine AllReady.cons rfl (fun K hK => ?_) ?_
      · refine step_mapUpdate _ _ _ 47 rfl Try.underlying47 fb G.length (dM G) rfl (HH.out _ hb2).fm (by have := maxLen_big; omega) (str k) v2 (.string k) rfl rfl (keyOf9 k hk) ?_
        intro w3 hm hg
        refine hK _ _ ?_
        clear hK K
        try simp only [Act.put]
        refine wpAny_done (by kernel_rfl) ?_ _
        go_wp2_with fail
        go_end0
        exact ⟨rfl, setFun_fin HL.out (HH.out _ hb2) hb2 ho2 hm hg⟩
      exact AllReady.nil
    exact AllReady.nil
  exact AllReady.nil
end Go.Proofs.Ytikogljojnapaaa
