/- Events are picked. -/
import Derived.Test.YtfafhjglcaikoaaGreatDoorH1
/-! Copies of lists; events are noted. -/
namespace Go.Proofs.YtfafhjglcaikoaaGreatDoor
open Go.RowKit

theorem txV_length (U : List Txt) : (txV U).length = U.length := by simp [txV]
theorem txV_one (U : List Txt) : ∀ u ∈ txV U, u.oneCell' = true := by
  intro u hu
  obtain ⟨p, _, rfl⟩ := List.mem_map.1 hu
  rfl
theorem bytes_getD (l : List Txt) (j : Nat) (p : Txt) (h : l[j]? = some p) : (l.map fun t => (⟨t.toArray⟩ : ByteArray)).getD j ByteArray.empty = ⟨p.toArray⟩ := by
  rw [List.getD_eq_getElem?_getD, List.getElem?_map, h]
  rfl
theorem Tx.bytes {W : World} {g o n cap : Nat} {l : List Txt} (h : Tx W (.slice (some ⟨g, o, none⟩) n cap) l) : ∀ j, j < (l.map fun t => (⟨t.toArray⟩ : ByteArray)).length → W.cell? ⟨g, o + j, none⟩ = some (.string ((l.map fun t => (⟨t.toArray⟩ : ByteArray)).getD j ByteArray.empty)) := by
  intro j hj
  rw [List.length_map] at hj
  obtain ⟨g', o', cap', h1, _, _, h3⟩ := h.inRow (fun e => by rw [e] at hj; simp at hj)
  cases h1
  rw [bytes_getD l j _ (List.getElem?_eq_getElem hj)]
  exact h3 j _ (List.getElem?_eq_getElem hj)
theorem txV_bytes (l : List Txt) : (l.map fun t => (⟨t.toArray⟩ : ByteArray)).map Value.string = txV l := by simp [txV]

theorem clone_any (v : Value) (l : List Txt) (W : World) (h : Tx W v l) (hl : l.length < 4294967296) :
    Calls Tryz.prog 100 #[v] W fun e w' => ∃ v', e = .returned v' ∧ w'.ownsRow W.heap.size 9 1 v' l.length (txV l) ∧ Below W.heap.size W w' := by
  rcases h with ⟨rfl, rfl⟩ | ⟨ad, cap, rfl, h1, h2⟩
  · refine (Tryz.slices_Clone_string_nil 0 0 W).mono ?_
    rintro e w' ⟨rfl, rfl⟩
    exact ⟨_, rfl, World.ownsRow_nil _ _ _ _, Below.refl _ _⟩
  · by_cases hne : l = []
    · subst hne
      refine (Tryz.slices_Clone_string_zero ad cap W).mono ?_
      rintro e w' ⟨v', rfl, h6, _, h7⟩
      exact ⟨v', rfl, h6, h7⟩
    · have ht : Tx W (.slice (some ad) l.length cap) l := .inr ⟨ad, cap, rfl, h1, h2⟩
      obtain ⟨g, o, rfl, h4, h5⟩ := h2 hne
      refine (Tryz.slices_Clone_string g o l.length cap (l.map fun t => (⟨t.toArray⟩ : ByteArray)) W (by simp) (by omega) ht.bytes).mono ?_
      rintro e w' ⟨v', rfl, h6, _, h7⟩
      refine ⟨v', rfl, ?_, h7⟩
      rw [List.take_of_length_le (by simp), txV_bytes] at h6
      exact h6

theorem size70 : (Tryz.prog.info? 65).map (·.size) = some 5 := by kernel_rfl
abbrev evV (e : Ev) (v : Value) : Value := .agg #[.int .i64 e.kind, .int .i64 e.n, str e.a, str e.b, v]
set_option maxHeartbeats 1000000 in
theorem own_any (e : Ev) (lv : Value) (W : World) (h : Tx W lv e.l) (hl : e.l.length < 4294967296) :
    Calls Tryz.prog 174 #[evV e lv] W fun r w' => ∃ v', r = .returned (evV e v') ∧ w'.ownsRow W.heap.size 9 1 v' e.l.length (txV e.l) ∧ Below W.heap.size W w' := by
  have HT : Hid (∀ W', Below W.heap.size W W' → Tx W' lv e.l) := fun W' hb => h.below hb (Nat.le_refl _)
  obtain ⟨ad, cap, rfl⟩ := h.form
  clear h
  go_enter Tryz.func174, Tryz.ntmps174
  go_wp2_with fail
  have hb2 := (below_new W (.cells #[.int .i64 e.kind, .int .i64 e.n, str e.a, str e.b, .slice ad e.l.length cap] 65)).alloc (Nat.le_of_lt (by simp)) (.cells #[.int .i64 0, .int .i64 0, .string ⟨#[]⟩, .string ⟨#[]⟩, .slice none 0 0] 65)
  refine (clone_any _ e.l _ (HT.out _ hb2) hl).mono ?_
  rintro r w3 ⟨v3, rfl, ho3, hb3⟩
  obtain ⟨ad3, cap3, rfl⟩ := owns_slice ho3
  have cA := ((Cel.new W 65 #[.int .i64 e.kind, .int .i64 e.n, str e.a, str e.b, .slice ad e.l.length cap]).turn (Turn.ofBelow (S := fun _ => False) (below_new _ (.cells #[.int .i64 0, .int .i64 0, .string ⟨#[]⟩, .string ⟨#[]⟩, .slice none 0 0] 65))) (fun h => h)).turn (Turn.ofBelow (S := fun _ => False) hb3) (fun h => h)
  have cB := (Cel.new (W.alloc (.cells #[.int .i64 e.kind, .int .i64 e.n, str e.a, str e.b, .slice ad e.l.length cap] 65)) 65 #[.int .i64 0, .int .i64 0, .string ⟨#[]⟩, .string ⟨#[]⟩, .slice none 0 0]).turn (Turn.ofBelow (S := fun _ => False) hb3) (fun h => h)
  have e1 : (W.alloc (.cells #[.int .i64 e.kind, .int .i64 e.n, str e.a, str e.b, .slice ad e.l.length cap] 65)).heap.size = W.heap.size + 1 := by simp
  rw [e1] at cB
  have hb0 : Below W.heap.size W w3 := hb2.trans (hb3.mono hb2.size)
  have ho4 := owns_lower (B' := W.heap.size + 2) ho3 (by simp)
  have HO : Hid (w3.ownsRow (W.heap.size + 2) 9 1 (.slice ad3 e.l.length cap3) e.l.length (txV e.l)) := ho4
  have HA : Hid _ := cA
  have HB : Hid _ := cB
  have a0 := cA.cell 0
  have a1 := cA.cell 1
  have a2 := cA.cell 2
  have a3 := cA.cell 3
  have a4 := cA.cell 4
  have f4 := cA.frozen 4
  have b0 := cB.cell 0
  have b1 := cB.cell 1
  have b2 := cB.cell 2
  have b3 := cB.cell 3
  have b4 := cB.cell 4
  have g0 := cB.frozen 0
  have g1 := cB.frozen 1
  have g2 := cB.frozen 2
  have g3 := cB.frozen 3
  have g4 := cB.frozen 4
  clear cA cB hb2 hb3 ho3 ho4 e1
  go_wp2_with fail
  have cC := (((((Cel.other HB.out (b' := W.heap.size) (j := 4) (by omega) (.slice ad3 e.l.length cap3)).set (j := 0) (.int .i64 e.kind)).set (j := 1) (.int .i64 e.n)).set (j := 2) (str e.a)).set (j := 3) (str e.b)).set (j := 4) (.slice ad3 e.l.length cap3)
  refine bodyPost_ret (results_cell_row (p := 2) (ty := 65) rfl _ _ (W.heap.size + 1) 65 #[.int .i64 e.kind, .int .i64 e.n, str e.a, str e.b, .slice ad3 e.l.length cap3] (0, 0) _ rfl cC Tryz.underlying65 rfl size70) rfl ?_
  have hT : Turn (fun i => i = W.heap.size ∨ i = W.heap.size + 1) w3 ((((((w3.setCell ⟨W.heap.size, 4, none⟩ (.slice ad3 e.l.length cap3)).setCell ⟨W.heap.size + 1, 0, none⟩ (.int .i64 e.kind)).setCell ⟨W.heap.size + 1, 1, none⟩ (.int .i64 e.n)).setCell ⟨W.heap.size + 1, 2, none⟩ (str e.a)).setCell ⟨W.heap.size + 1, 3, none⟩ (str e.b)).setCell ⟨W.heap.size + 1, 4, none⟩ (.slice ad3 e.l.length cap3)) :=
    ((((((Turn.refl _ w3).setCell (fun _ => .inl rfl) _).setCell (fun _ => .inr rfl) _).setCell (fun _ => .inr rfl) _).setCell (fun _ => .inr rfl) _).setCell (fun _ => .inr rfl) _).setCell (fun _ => .inr rfl) _
  refine ⟨_, rfl, owns_turn (owns_lower HO.out (by omega)) hT (fun b hb => ?_), hb0.trans (hT.below (fun i hi => by omega) hb0.size)⟩
  have := (HO.out.lt b hb).1
  omega
end Go.Proofs.YtfafhjglcaikoaaGreatDoor
/-! An event is noted. -/
namespace Go.Proofs.YtfafhjglcaikoaaGreatDoor
open Go.RowKit

theorem info70 : (Tryz.prog.info? 65).map (fun i => (i.zero, i.size, i.bytes)) = some (some (.agg #[.int .i64 0, .int .i64 0, .string ⟨#[]⟩, .string ⟨#[]⟩, .slice none 0 0]), 5, 72) := by kernel_rfl
/-- An append at its operation, in whatever walk. -/
theorem step_append {P : Program} {o : Oper} {a : Act} {w : World} {K : Act → World → Prop} {Q : Exit → Act → World → Prop} (s x : Operand) (t : TypeId)
    (ho : o.op = .call { callee := .builtin .append, args := #[s, x], argTypes := #[t, t] })
    (base : Nat) (e : TypeId) (i : TypeInfo) (z : Value) (size bytes : Nat) (ht : P.underlying t = some (.slice e)) (hi : P.info? e = some i) (hz : i.zero = some z)
    (hsize : i.size = size) (hby : i.bytes = bytes) (hzs : z.cells.size = size) (hsz : 0 < size)
    (v : Value) (n : Nat) (xs : List Value) (hs : a.eval s = v) (hown : w.ownsRow base e size v n xs)
    (ad : Addr) (m c : Nat) (news : List Value) (hx : a.eval x = .slice (some ad) m c) (hl : news.length = m * size) (hnews : ∀ j u, news[j]? = some u → w.cell? (ad.add j) = some u) (h1 : ∀ u ∈ news, u.oneCell' = true)
    (h63 : n + m ≤ maxLen) (hbytes : (n + m) * bytes ≤ 140737488355328) (hbase : base ≤ w.heap.size)
    (h : ∀ v' w', w'.ownsRow base e size v' (n + m) (xs ++ news) → w.grownBy w' v.ownBlock → (v' = .slice none 0 0 ↔ v = .slice none 0 0 ∧ m = 0) → (v'.ownBlock = v.ownBlock ∨ v'.ownBlock = some w.heap.size) → K (a.put o.dst v') w') :
    Oper.wp P o a w K Q := by
  obtain ⟨v', w', hr, h2, h3, h4, h5⟩ := run_append_own_at (P := P) w base t o.type e i z size bytes ht hi hz hsize hby hzs hsz v n xs hown ad m c news hl hnews h1 h63 hbytes hbase
  unfold Oper.wp execOp
  simp only [ho, resolve, invoke, builtin, Sem.run_bind, Sem.run_pure, Result.andThen_ok, List.map_toArray, List.map_cons, List.map_nil, hs, hx, hr]
  exact h v' w' h2 h3 h4 h5
theorem evC_one (e : Ev) (ad : Option Addr) (n : Nat) {cap : Nat} : ∀ u ∈ evC e (.slice ad n cap), u.oneCell' = true := by
  intro u hu
  simp at hu
  rcases hu with rfl | rfl | rfl | rfl | rfl <;> rfl
theorem cells_new (w : World) (cs : List Value) (t : TypeId) : ∀ j u, cs[j]? = some u → (w.alloc (.cells cs.toArray t)).cell? ((⟨w.heap.size, 0, none⟩ : Addr).add j) = some u := by
  intro j u hj
  have := (Cel.new w t cs.toArray).cell j
  have hadd : (⟨w.heap.size, 0, none⟩ : Addr).add j = ⟨w.heap.size, j, none⟩ := by
    unfold Addr.add
    split
    · rename_i h; subst h; rfl
    · simp
  rw [hadd, this]
  simpa using hj
/-- All that is owed behind the append. -/
theorem noted_fin {W w2 w4 : World} {K : Nat → Prop} {kb mb : Nat} {ev rv : Value} {F : Fls} {Y : List (Rw × Value)} {X : List (Ev × Value)} {e : Ev} {lv ev' : Value} {o : Obj}
    (HH : ∀ W', Below W.heap.size W W' → Kern W' K kb mb ev rv F Y X) (ho : w2.ownsRow W.heap.size 9 1 lv e.l.length (txV e.l)) (hb2 : Below W.heap.size W w2)
    (hown4 : w4.ownsRow 0 65 5 ev' (X.length + 1) (evCs X ++ evC e lv)) (hgrow4 : (w2.alloc o).grownBy w4 ev.ownBlock) (hat4 : ev'.ownBlock = ev.ownBlock ∨ ev'.ownBlock = some (w2.alloc o).heap.size) :
    w4.cell? ⟨kb, 0, none⟩ = some ev ∧ w4.frozen? ⟨kb, 0, none⟩ = false ∧ ∃ K', Kern (w4.setCell ⟨kb, 0, none⟩ ev') K' kb mb ev' rv F Y (X ++ [(e, lv)]) ∧ Stp W K (w4.setCell ⟨kb, 0, none⟩ ev') K' := by
  have hb3 := hb2.alloc hb2.size o
  have h3 := HH _ hb3
  have h0 := HH W (Below.refl _ _)
  have ho3 : (w2.alloc o).ownsRow 0 9 1 lv e.l.length (txV e.l) := owns_turn (owns_lower ho (Nat.zero_le _)) (Turn.ofBelow (S := fun _ => False) (below_new w2 o)) (fun _ _ h => h)
  have kc4 : Cel w4 kb 159 #[ev, .map (some mb), rv] := h3.kc.turn (Turn.ofGrown hgrow4) (fun e => owns_apart h3.kc h3.er (by decide) e)
  refine ⟨kc4.cell 0, kc4.frozen 0, ?_⟩
  obtain ⟨K', k1, k2, k3⟩ := Kern.noted h3 (Kl := fun i => W.heap.size ≤ i) ⟨ho3, fun b hb => (ho.lt b hb).1⟩ hown4 hgrow4 (hat4.imp id (fun h => ⟨_, h, Nat.le_refl _⟩))
  refine ⟨K', k1, (Turn.ofBelow hb3).trans k2 (fun i hi _ => hi), fun i hi => ?_⟩
  rcases k3 i hi with h | ⟨b, hb, rfl⟩ | h
  · exact .inl h
  · exact .inr (ho.lt i hb).1
  · exact .inr (Nat.le_trans hb3.size h)

set_option maxRecDepth 100000 in
set_option maxHeartbeats 4000000 in
theorem note_any {W : World} {K : Nat → Prop} {kb mb : Nat} {ev rv : Value} {F : Fls} {Y : List (Rw × Value)} {X : List (Ev × Value)} (e : Ev) (lv : Value) (h : Kern W K kb mb ev rv F Y X) (hX : X.length < 4294967296) (ht : Tx W lv e.l) (hl : e.l.length < 4294967296) :
    Calls Tryz.prog 169 #[kP kb, evV e lv] W fun r w' => r = .returned (.tuple #[]) ∧ ∃ ev' lv' K', Kern w' K' kb mb ev' rv F Y (X ++ [(e, lv')]) ∧ Stp W K w' K' := by
  obtain ⟨i0, hi, hz0, hz1, hz2⟩ := info_parts info70
  have HT : Hid (∀ W', Below W.heap.size W W' → Tx W' lv e.l) := fun W' hb => ht.below hb (Nat.le_refl _)
  have HH : Hid (∀ W', Below W.heap.size W W' → Kern W' K kb mb ev rv F Y X) := fun W' hb => h.below hb
  obtain ⟨ad, cap, rfl⟩ := ht.form
  obtain ⟨ade, cape, rfl⟩ := owns_slice h.er
  have HC : Hid (∀ W', Below W.heap.size W W' → W'.cell? ⟨kb, 0, none⟩ = some (.slice ade X.length cape)) := fun W' hb => (HH.out W' hb).kc.cell 0
  clear h ht
  go_enter Tryz.func169, Tryz.ntmps169
  go_wp2_with fail
  have hb1 : Below W.heap.size W (World.drew (W.alloc (.cells #[.int .i64 e.kind, .int .i64 e.n, str e.a, str e.b, .slice ad e.l.length cap] 65))) := (below_new W _).drew
  refine wp_region_any (by kernel_rfl) ?_
  try (change wpAny _ _ _ _ _ _ _ (World.drew _))
  refine wpAny_take (i := 0) (v := kP kb) rfl (by kernel_rfl) (by kernel_rfl) (by kernel_rfl) (fun _ _ _ h => h) (Or.inl ⟨by rfl, by intro wz; go_simp⟩) ?_
  try simp only [Act.put, List.getElem_toArray, List.getElem_cons_zero, List.setIfInBounds_toArray, List.set_cons_zero, List.set_cons_succ]
  refine wpAny_take (i := 1) (v := kP kb) rfl (by kernel_rfl) (by kernel_rfl) (by kernel_rfl) (fun _ _ _ h => h) (Or.inl ⟨by rfl, by intro wz; go_simp⟩) ?_
  try simp only [Act.put, List.getElem_toArray, List.getElem_cons_succ, List.getElem_cons_zero, List.setIfInBounds_toArray, List.set_cons_zero, List.set_cons_succ]
  refine wpAny_take (i := 2) (v := kP kb) rfl (by kernel_rfl) (by kernel_rfl) (by kernel_rfl) (fun _ _ _ h => h) (Or.inl ⟨by rfl, by intro wz; go_simp⟩) ?_
  try simp only [Act.put, List.getElem_toArray, List.getElem_cons_succ, List.getElem_cons_zero, List.setIfInBounds_toArray, List.set_cons_zero, List.set_cons_succ]
  refine wpAny_take (i := 3) (v := kP kb) rfl (by kernel_rfl) (by kernel_rfl) (by kernel_rfl) (fun _ _ _ h => h) (Or.inl ⟨by rfl, by intro wz; go_simp⟩) ?_
  try simp only [Act.put, List.getElem_toArray, List.getElem_cons_succ, List.getElem_cons_zero, List.setIfInBounds_toArray, List.set_cons_zero, List.set_cons_succ]
  refine wpAny_ready (rs := [4, 5]) (by kernel_rfl) (by simp) ?_
  refine AllReady.cons rfl (fun K hK => ?_) ?_
  · have c0 := HC.out _ hb1
    go_simp
    refine hK _ _ ?_
    clear hK K
    try simp only [Act.put, List.getElem_toArray, List.getElem_cons_succ, List.getElem_cons_zero, List.setIfInBounds_toArray, List.set_cons_zero, List.set_cons_succ]
    refine wpAny_ready (rs := [5]) (by kernel_rfl) (by simp) ?_
    refine AllReady.cons rfl (fun K hK => ?_) ?_
    · go_simp
      refine hK _ _ ?_
      clear hK K
      try simp only [Act.put, List.getElem_toArray, List.getElem_cons_succ, List.getElem_cons_zero, List.setIfInBounds_toArray, List.set_cons_zero, List.set_cons_succ]
      refine wpAny_ready (rs := [6]) (by kernel_rfl) (by simp) ?_
      refine AllReady.cons rfl (fun K hK => ?_) ?_
      · go_simp
        refine (own_any e _ _ (HT.out _ hb1) hl).mono ?_
        rintro r w2 ⟨v2, rfl, ho2, hb2'⟩
        obtain ⟨ad2, cap2, rfl⟩ := owns_slice ho2
        have hb2 := hb1.trans (hb2'.mono hb1.size)
        have HO2 : Hid (w2.ownsRow W.heap.size 9 1 (.slice ad2 e.l.length cap2) e.l.length (txV e.l)) := owns_lower ho2 hb1.size
        clear ho2 hb2'
        refine hK _ _ ?_
        clear hK K
        try simp only [Act.put, List.getElem_toArray, List.getElem_cons_succ, List.getElem_cons_zero, List.setIfInBounds_toArray, List.set_cons_zero, List.set_cons_succ]
        refine wpAny_ready (rs := [7]) (by kernel_rfl) (by simp) ?_
        refine AllReady.cons rfl (fun K hK => ?_) ?_
        · go_simp
          refine hK _ _ ?_
          clear hK K
          try simp only [Act.put, List.getElem_toArray, List.getElem_cons_succ, List.getElem_cons_zero, List.setIfInBounds_toArray, List.set_cons_zero, List.set_cons_succ]
          have hb3 := hb2.alloc hb2.size (.cells #[.int .i64 e.kind, .int .i64 e.n, str e.a, str e.b, .slice ad2 e.l.length cap2] 65)
          refine wpAny_ready (rs := [8]) (by kernel_rfl) (by simp) ?_
          refine AllReady.cons rfl (fun K hK => ?_) ?_
          · refine step_append _ _ 52 rfl 0 65 i0 _ 5 72 Tryz.underlying52 hi hz0 hz1 hz2 rfl (by decide) (.slice ade X.length cape) X.length (evCs X) rfl (HH.out _ hb3).er ⟨w2.heap.size, 0, none⟩ 1 1 (evC e (.slice ad2 e.l.length cap2)) rfl rfl (cells_new w2 _ 65) (evC_one _ _ _) (by have := maxLen_big; omega) (by omega) (Nat.zero_le _) ?_
            intro v4 w4 hown4 hgrow4 _ hat4
            refine hK _ _ ?_
            clear hK K
            try simp only [Act.put, List.getElem_toArray, List.getElem_cons_succ, List.getElem_cons_zero, List.setIfInBounds_toArray, List.set_cons_zero, List.set_cons_succ]
            obtain ⟨ad4, cap4, rfl⟩ := owns_slice hown4
            have NT : Hid _ := noted_fin HH.out HO2.out hb2 hown4 hgrow4 hat4
            have c4 : w4.cell? ⟨kb, 0, none⟩ = some (.slice ade X.length cape) := NT.out.1
            have f4 : w4.frozen? ⟨kb, 0, none⟩ = false := NT.out.2.1
            refine wpAny_take (i := 9) (v := kP kb) rfl (by kernel_rfl) (by kernel_rfl) (by kernel_rfl) (fun _ _ _ h => h) (Or.inl ⟨by rfl, by intro wz; go_simp⟩) ?_
            try simp only [Act.put, List.getElem_toArray, List.getElem_cons_succ, List.getElem_cons_zero, List.setIfInBounds_toArray, List.set_cons_zero, List.set_cons_succ]
            refine wpAny_take (i := 10) (v := kP kb) rfl (by kernel_rfl) (by kernel_rfl) (by kernel_rfl) (fun _ _ _ h => h) (Or.inl ⟨by rfl, by intro wz; go_simp⟩) ?_
            try simp only [Act.put, List.getElem_toArray, List.getElem_cons_succ, List.getElem_cons_zero, List.setIfInBounds_toArray, List.set_cons_zero, List.set_cons_succ]
            refine wpAny_ready (rs := [11]) (by kernel_rfl) (by simp) ?_
            refine AllReady.cons rfl (fun K hK => ?_) ?_
            · go_simp
              refine hK _ _ ?_
              clear hK K
              try simp only [Act.put, List.getElem_toArray, List.getElem_cons_succ, List.getElem_cons_zero, List.setIfInBounds_toArray, List.set_cons_zero, List.set_cons_succ]
              refine wpAny_done (by kernel_rfl) ?_ _
              go_wp2_with fail
              go_end0
              exact ⟨rfl, _, _, NT.out.2.2⟩
            exact AllReady.nil
          exact AllReady.nil
        exact AllReady.nil
      exact AllReady.nil
    exact AllReady.nil
  refine AllReady.cons rfl (fun K hK => ?_) ?_
  · go_simp
    refine hK _ _ ?_
    clear hK K
    try simp only [Act.put, List.getElem_toArray, List.getElem_cons_succ, List.getElem_cons_zero, List.setIfInBounds_toArray, List.set_cons_zero, List.set_cons_succ]
    refine wpAny_ready (rs := [4, 6]) (by kernel_rfl) (by simp) ?_
    refine AllReady.cons rfl (fun K hK => ?_) ?_
    · have c0 := HC.out _ hb1
      go_simp
      refine hK _ _ ?_
      clear hK K
      try simp only [Act.put, List.getElem_toArray, List.getElem_cons_succ, List.getElem_cons_zero, List.setIfInBounds_toArray, List.set_cons_zero, List.set_cons_succ]
      refine wpAny_ready (rs := [6]) (by kernel_rfl) (by simp) ?_
      refine AllReady.cons rfl (fun K hK => ?_) ?_
      · go_simp
        refine (own_any e _ _ (HT.out _ hb1) hl).mono ?_
        rintro r w2 ⟨v2, rfl, ho2, hb2'⟩
        obtain ⟨ad2, cap2, rfl⟩ := owns_slice ho2
        have hb2 := hb1.trans (hb2'.mono hb1.size)
        have HO2 : Hid (w2.ownsRow W.heap.size 9 1 (.slice ad2 e.l.length cap2) e.l.length (txV e.l)) := owns_lower ho2 hb1.size
        clear ho2 hb2'
        refine hK _ _ ?_
        clear hK K
        try simp only [Act.put, List.getElem_toArray, List.getElem_cons_succ, List.getElem_cons_zero, List.setIfInBounds_toArray, List.set_cons_zero, List.set_cons_succ]
        refine wpAny_ready (rs := [7]) (by kernel_rfl) (by simp) ?_
        refine AllReady.cons rfl (fun K hK => ?_) ?_
        · go_simp
          refine hK _ _ ?_
          clear hK K
          try simp only [Act.put, List.getElem_toArray, List.getElem_cons_succ, List.getElem_cons_zero, List.setIfInBounds_toArray, List.set_cons_zero, List.set_cons_succ]
          have hb3 := hb2.alloc hb2.size (.cells #[.int .i64 e.kind, .int .i64 e.n, str e.a, str e.b, .slice ad2 e.l.length cap2] 65)
          refine wpAny_ready (rs := [8]) (by kernel_rfl) (by simp) ?_
          refine AllReady.cons rfl (fun K hK => ?_) ?_
          · refine step_append _ _ 52 rfl 0 65 i0 _ 5 72 Tryz.underlying52 hi hz0 hz1 hz2 rfl (by decide) (.slice ade X.length cape) X.length (evCs X) rfl (HH.out _ hb3).er ⟨w2.heap.size, 0, none⟩ 1 1 (evC e (.slice ad2 e.l.length cap2)) rfl rfl (cells_new w2 _ 65) (evC_one _ _ _) (by have := maxLen_big; omega) (by omega) (Nat.zero_le _) ?_
            intro v4 w4 hown4 hgrow4 _ hat4
            refine hK _ _ ?_
            clear hK K
            try simp only [Act.put, List.getElem_toArray, List.getElem_cons_succ, List.getElem_cons_zero, List.setIfInBounds_toArray, List.set_cons_zero, List.set_cons_succ]
            obtain ⟨ad4, cap4, rfl⟩ := owns_slice hown4
            have NT : Hid _ := noted_fin HH.out HO2.out hb2 hown4 hgrow4 hat4
            have c4 : w4.cell? ⟨kb, 0, none⟩ = some (.slice ade X.length cape) := NT.out.1
            have f4 : w4.frozen? ⟨kb, 0, none⟩ = false := NT.out.2.1
            refine wpAny_take (i := 9) (v := kP kb) rfl (by kernel_rfl) (by kernel_rfl) (by kernel_rfl) (fun _ _ _ h => h) (Or.inl ⟨by rfl, by intro wz; go_simp⟩) ?_
            try simp only [Act.put, List.getElem_toArray, List.getElem_cons_succ, List.getElem_cons_zero, List.setIfInBounds_toArray, List.set_cons_zero, List.set_cons_succ]
            refine wpAny_take (i := 10) (v := kP kb) rfl (by kernel_rfl) (by kernel_rfl) (by kernel_rfl) (fun _ _ _ h => h) (Or.inl ⟨by rfl, by intro wz; go_simp⟩) ?_
            try simp only [Act.put, List.getElem_toArray, List.getElem_cons_succ, List.getElem_cons_zero, List.setIfInBounds_toArray, List.set_cons_zero, List.set_cons_succ]
            refine wpAny_ready (rs := [11]) (by kernel_rfl) (by simp) ?_
            refine AllReady.cons rfl (fun K hK => ?_) ?_
            · go_simp
              refine hK _ _ ?_
              clear hK K
              try simp only [Act.put, List.getElem_toArray, List.getElem_cons_succ, List.getElem_cons_zero, List.setIfInBounds_toArray, List.set_cons_zero, List.set_cons_succ]
              refine wpAny_done (by kernel_rfl) ?_ _
              go_wp2_with fail
              go_end0
              exact ⟨rfl, _, _, NT.out.2.2⟩
            exact AllReady.nil
          exact AllReady.nil
        exact AllReady.nil
      exact AllReady.nil
    refine AllReady.cons rfl (fun K hK => ?_) ?_
    · go_simp
      refine (own_any e _ _ (HT.out _ hb1) hl).mono ?_
      rintro r w2 ⟨v2, rfl, ho2, hb2'⟩
      obtain ⟨ad2, cap2, rfl⟩ := owns_slice ho2
      have hb2 := hb1.trans (hb2'.mono hb1.size)
      have HO2 : Hid (w2.ownsRow W.heap.size 9 1 (.slice ad2 e.l.length cap2) e.l.length (txV e.l)) := owns_lower ho2 hb1.size
      clear ho2 hb2'
      refine hK _ _ ?_
      clear hK K
      try simp only [Act.put, List.getElem_toArray, List.getElem_cons_succ, List.getElem_cons_zero, List.setIfInBounds_toArray, List.set_cons_zero, List.set_cons_succ]
      refine wpAny_ready (rs := [4, 7]) (by kernel_rfl) (by simp) ?_
      refine AllReady.cons rfl (fun K hK => ?_) ?_
      · have c0 := HC.out _ hb2
        go_simp
        refine hK _ _ ?_
        clear hK K
        try simp only [Act.put, List.getElem_toArray, List.getElem_cons_succ, List.getElem_cons_zero, List.setIfInBounds_toArray, List.set_cons_zero, List.set_cons_succ]
        refine wpAny_ready (rs := [7]) (by kernel_rfl) (by simp) ?_
        refine AllReady.cons rfl (fun K hK => ?_) ?_
        · go_simp
          refine hK _ _ ?_
          clear hK K
          try simp only [Act.put, List.getElem_toArray, List.getElem_cons_succ, List.getElem_cons_zero, List.setIfInBounds_toArray, List.set_cons_zero, List.set_cons_succ]
          have hb3 := hb2.alloc hb2.size (.cells #[.int .i64 e.kind, .int .i64 e.n, str e.a, str e.b, .slice ad2 e.l.length cap2] 65)
          refine wpAny_ready (rs := [8]) (by kernel_rfl) (by simp) ?_
          refine AllReady.cons rfl (fun K hK => ?_) ?_
          · refine step_append _ _ 52 rfl 0 65 i0 _ 5 72 Tryz.underlying52 hi hz0 hz1 hz2 rfl (by decide) (.slice ade X.length cape) X.length (evCs X) rfl (HH.out _ hb3).er ⟨w2.heap.size, 0, none⟩ 1 1 (evC e (.slice ad2 e.l.length cap2)) rfl rfl (cells_new w2 _ 65) (evC_one _ _ _) (by have := maxLen_big; omega) (by omega) (Nat.zero_le _) ?_
            intro v4 w4 hown4 hgrow4 _ hat4
            refine hK _ _ ?_
            clear hK K
            try simp only [Act.put, List.getElem_toArray, List.getElem_cons_succ, List.getElem_cons_zero, List.setIfInBounds_toArray, List.set_cons_zero, List.set_cons_succ]
            obtain ⟨ad4, cap4, rfl⟩ := owns_slice hown4
            have NT : Hid _ := noted_fin HH.out HO2.out hb2 hown4 hgrow4 hat4
            have c4 : w4.cell? ⟨kb, 0, none⟩ = some (.slice ade X.length cape) := NT.out.1
            have f4 : w4.frozen? ⟨kb, 0, none⟩ = false := NT.out.2.1
            refine wpAny_take (i := 9) (v := kP kb) rfl (by kernel_rfl) (by kernel_rfl) (by kernel_rfl) (fun _ _ _ h => h) (Or.inl ⟨by rfl, by intro wz; go_simp⟩) ?_
            try simp only [Act.put, List.getElem_toArray, List.getElem_cons_succ, List.getElem_cons_zero, List.setIfInBounds_toArray, List.set_cons_zero, List.set_cons_succ]
            refine wpAny_take (i := 10) (v := kP kb) rfl (by kernel_rfl) (by kernel_rfl) (by kernel_rfl) (fun _ _ _ h => h) (Or.inl ⟨by rfl, by intro wz; go_simp⟩) ?_
            try simp only [Act.put, List.getElem_toArray, List.getElem_cons_succ, List.getElem_cons_zero, List.setIfInBounds_toArray, List.set_cons_zero, List.set_cons_succ]
            refine wpAny_ready (rs := [11]) (by kernel_rfl) (by simp) ?_
            refine AllReady.cons rfl (fun K hK => ?_) ?_
            · go_simp
              refine hK _ _ ?_
              clear hK K
              try simp only [Act.put, List.getElem_toArray, List.getElem_cons_succ, List.getElem_cons_zero, List.setIfInBounds_toArray, List.set_cons_zero, List.set_cons_succ]
              refine wpAny_done (by kernel_rfl) ?_ _
              go_wp2_with fail
              go_end0
              exact ⟨rfl, _, _, NT.out.2.2⟩
            exact AllReady.nil
          exact AllReady.nil
        exact AllReady.nil
      refine AllReady.cons rfl (fun K hK => ?_) ?_
      · go_simp
        refine hK _ _ ?_
        clear hK K
        try simp only [Act.put, List.getElem_toArray, List.getElem_cons_succ, List.getElem_cons_zero, List.setIfInBounds_toArray, List.set_cons_zero, List.set_cons_succ]
        refine wpAny_ready (rs := [4]) (by kernel_rfl) (by simp) ?_
        refine AllReady.cons rfl (fun K hK => ?_) ?_
        · have c0 := HC.out _ (hb2.alloc hb2.size (.cells #[.int .i64 e.kind, .int .i64 e.n, str e.a, str e.b, .slice ad2 e.l.length cap2] 65))
          go_simp
          refine hK _ _ ?_
          clear hK K
          try simp only [Act.put, List.getElem_toArray, List.getElem_cons_succ, List.getElem_cons_zero, List.setIfInBounds_toArray, List.set_cons_zero, List.set_cons_succ]
          have hb3 := hb2.alloc hb2.size (.cells #[.int .i64 e.kind, .int .i64 e.n, str e.a, str e.b, .slice ad2 e.l.length cap2] 65)
          refine wpAny_ready (rs := [8]) (by kernel_rfl) (by simp) ?_
          refine AllReady.cons rfl (fun K hK => ?_) ?_
          · refine step_append _ _ 52 rfl 0 65 i0 _ 5 72 Tryz.underlying52 hi hz0 hz1 hz2 rfl (by decide) (.slice ade X.length cape) X.length (evCs X) rfl (HH.out _ hb3).er ⟨w2.heap.size, 0, none⟩ 1 1 (evC e (.slice ad2 e.l.length cap2)) rfl rfl (cells_new w2 _ 65) (evC_one _ _ _) (by have := maxLen_big; omega) (by omega) (Nat.zero_le _) ?_
            intro v4 w4 hown4 hgrow4 _ hat4
            refine hK _ _ ?_
            clear hK K
            try simp only [Act.put, List.getElem_toArray, List.getElem_cons_succ, List.getElem_cons_zero, List.setIfInBounds_toArray, List.set_cons_zero, List.set_cons_succ]
            obtain ⟨ad4, cap4, rfl⟩ := owns_slice hown4
            have NT : Hid _ := noted_fin HH.out HO2.out hb2 hown4 hgrow4 hat4
            have c4 : w4.cell? ⟨kb, 0, none⟩ = some (.slice ade X.length cape) := NT.out.1
            have f4 : w4.frozen? ⟨kb, 0, none⟩ = false := NT.out.2.1
            refine wpAny_take (i := 9) (v := kP kb) rfl (by kernel_rfl) (by kernel_rfl) (by kernel_rfl) (fun _ _ _ h => h) (Or.inl ⟨by rfl, by intro wz; go_simp⟩) ?_
            try simp only [Act.put, List.getElem_toArray, List.getElem_cons_succ, List.getElem_cons_zero, List.setIfInBounds_toArray, List.set_cons_zero, List.set_cons_succ]
            refine wpAny_take (i := 10) (v := kP kb) rfl (by kernel_rfl) (by kernel_rfl) (by kernel_rfl) (fun _ _ _ h => h) (Or.inl ⟨by rfl, by intro wz; go_simp⟩) ?_
            try simp only [Act.put, List.getElem_toArray, List.getElem_cons_succ, List.getElem_cons_zero, List.setIfInBounds_toArray, List.set_cons_zero, List.set_cons_succ]
            refine wpAny_ready (rs := [11]) (by kernel_rfl) (by simp) ?_
            refine AllReady.cons rfl (fun K hK => ?_) ?_
            · go_simp
              refine hK _ _ ?_
              clear hK K
              try simp only [Act.put, List.getElem_toArray, List.getElem_cons_succ, List.getElem_cons_zero, List.setIfInBounds_toArray, List.set_cons_zero, List.set_cons_succ]
              refine wpAny_done (by kernel_rfl) ?_ _
              go_wp2_with fail
              go_end0
              exact ⟨rfl, _, _, NT.out.2.2⟩
            exact AllReady.nil
          exact AllReady.nil
        exact AllReady.nil
      exact AllReady.nil
    exact AllReady.nil
  exact AllReady.nil
end Go.Proofs.YtfafhjglcaikoaaGreatDoor
/-! Marks; rows; what is read of a kernel. -/
namespace Go.Proofs.YtfafhjglcaikoaaGreatDoor
open Go.RowKit

/-- What a mark leaves. -/
def marked (k n : Int) : List Ev := if markB k then [⟨k, n, [], [], []⟩] else []
set_option maxHeartbeats 1000000 in
theorem mark_any {W : World} {K : Nat → Prop} {kb mb : Nat} {ev rv : Value} {F : Fls} {Y : List (Rw × Value)} {X : List (Ev × Value)} (k n : Int) (h : Kern W K kb mb ev rv F Y X) (hX : X.length < 4294967296) :
    Calls Tryz.prog 117 #[kP kb, .int .i64 k, .int .i64 n] W fun r w' => r = .returned (.tuple #[]) ∧ ∃ ev' X' K', Kern w' K' kb mb ev' rv F Y (X ++ X') ∧ X'.map Prod.fst = marked k n ∧ Stp W K w' K' := by
  have HH : Hid _ := h
  have HM := isMark_any k W
  cases hm : markB k with
  | true =>
    have e1 : marked k n = [⟨k, n, [], [], []⟩] := by simp [marked, hm]
    rw [hm] at HM
    have HM' : Hid _ := HM
    have HE : Hid _ := e1
    clear h HM hm e1
    go_enter Tryz.func117, Tryz.ntmps117
    go_wp2_with fail
    refine Calls.mono HM'.out ?_
    rintro e w1 ⟨rfl, hw1⟩
    obtain rfl := hw1.symm
    go_wp2_with fail
    refine (note_any ⟨k, n, [], [], []⟩ (.slice none 0 0) HH.out hX (Tx.nil _) (Nat.zero_lt_succ _)).mono ?_
    rintro e w2 ⟨rfl, ev', lv', K', h1, h2⟩
    go_wp2_with fail
    go_end0
    exact ⟨rfl, ev', [(_, lv')], K', h1, by rw [HE.out]; rfl, h2⟩
  | false =>
    have e1 : marked k n = [] := by simp [marked, hm]
    rw [hm] at HM
    have HM' : Hid _ := HM
    have HE : Hid _ := e1
    clear h HM hm e1
    go_enter Tryz.func117, Tryz.ntmps117
    go_wp2_with fail
    refine Calls.mono HM'.out ?_
    rintro e w1 ⟨rfl, hw1⟩
    obtain rfl := hw1.symm
    go_wp2_with fail
    go_end0
    exact ⟨rfl, ev, [], K, by rw [List.append_nil]; exact HH.out, by rw [HE.out]; rfl, Stp.refl _ _⟩
end Go.Proofs.YtfafhjglcaikoaaGreatDoor
namespace Go.Proofs.YtfafhjglcaikoaaGreatDoor
open Go.RowKit

/-- Structs lie in a row. -/
def RowAt (W : World) (v : Value) (k : Nat) (css : List (List Value)) : Prop :=
  (css = [] ∧ ∃ ad cap, v = .slice ad 0 cap) ∨
  ∃ g o cap, v = .slice (some ⟨g, o, none⟩) css.length cap ∧ css.length ≤ cap ∧ g < W.heap.size ∧ ∀ j cs, css[j]? = some cs → ∀ i u, cs[i]? = some u → W.cell? ⟨g, o + j * k + i, none⟩ = some u
theorem RowAt.form {W : World} {v : Value} {k : Nat} {css : List (List Value)} (h : RowAt W v k css) : ∃ ad cap, v = .slice ad css.length cap := by
  rcases h with ⟨rfl, ad, cap, rfl⟩ | ⟨g, o, cap, rfl, _⟩
  · exact ⟨ad, cap, rfl⟩
  · exact ⟨_, cap, rfl⟩
theorem RowAt.below {W W' : World} {v : Value} {k : Nat} {css : List (List Value)} {B : Nat} (h : RowAt W v k css) (hb : Below B W W') (hB : W.heap.size ≤ B) : RowAt W' v k css := by
  rcases h with h | ⟨g, o, cap, h1, h2, h3, h4⟩
  · exact .inl h
  · exact .inr ⟨g, o, cap, h1, h2, Nat.lt_of_lt_of_le h3 hb.size, fun j cs hj i u hu => (hb.cell (p := ⟨g, o + j * k + i, none⟩) (by show g < B; omega)).trans (h4 j cs hj i u hu)⟩
theorem flat_at (k : Nat) : ∀ (css : List (List Value)), (∀ cs ∈ css, cs.length = k) → ∀ j cs, css[j]? = some cs → ∀ i u, cs[i]? = some u → (css.flatMap id)[j * k + i]? = some u
  | [], _, j, cs, h => by simp at h
  | c :: css, hk, 0, cs, h => by
    simp at h
    subst h
    intro i u hu
    rw [Nat.zero_mul, Nat.zero_add, List.flatMap_cons]
    show (c ++ _)[i]? = _
    rw [List.getElem?_append_left (List.getElem?_eq_some_iff.1 hu).1]
    exact hu
  | c :: css, hk, j + 1, cs, h => by
    intro i u hu
    have hc := hk c (by simp)
    have := flat_at k css (fun x hx => hk x (by simp [hx])) j cs (by simpa using h) i u hu
    rw [List.flatMap_cons, List.getElem?_append_right (by simp only [id, hc]; rw [Nat.succ_mul]; omega)]
    have e : (j + 1) * k + i - (id c).length = j * k + i := by simp only [id, hc]; rw [Nat.succ_mul]; omega
    rw [e]
    exact this
theorem RowAt.owned {W : World} {B e k : Nat} {v : Value} {css : List (List Value)} (h : W.ownsRow B e k v css.length (css.flatMap id)) (hk : ∀ cs ∈ css, cs.length = k) : RowAt W v k css := by
  rcases h.2 with ⟨hv, h0⟩ | ⟨g, cap, cur, hv, hb, hc, h1, _, h2, h3⟩
  · exact .inl ⟨List.eq_nil_of_length_eq_zero h0, none, 0, hv⟩
  · refine .inr ⟨g, 0, cap, hv, h1, (Array.getElem?_eq_some_iff.1 hc).1, fun j cs hj i u hu => ?_⟩
    have hf := flat_at k css hk j cs hj i u hu
    have hlt := (List.getElem?_eq_some_iff.1 hf).1
    rw [h.1] at hlt
    have e1 : W.cell? ⟨g, 0 + j * k + i, none⟩ = cur[j * k + i]? := by simp [World.cell?, hc]
    rw [e1, ← Array.getElem?_toList, ← List.getElem?_take_of_lt hlt, h3]
    exact hf
abbrev evL (X : List (Ev × Value)) : List (List Value) := X.map fun p => evC p.1 p.2
theorem evL_flat (X : List (Ev × Value)) : (evL X).flatMap id = evCs X := by simp [evL, evCs, List.flatMap_map]
theorem evL_len (X : List (Ev × Value)) : ∀ cs ∈ evL X, cs.length = 5 := by
  intro cs hcs
  obtain ⟨p, _, rfl⟩ := List.mem_map.1 hcs
  rfl
/-- Events in memory, to be read. -/
def EvAt (W : World) (v : Value) (X : List (Ev × Value)) : Prop := RowAt W v 5 (evL X) ∧ ∀ p ∈ X, Tx W p.2 p.1.l
theorem EvAt.below {W W' : World} {v : Value} {X : List (Ev × Value)} {B : Nat} (h : EvAt W v X) (hb : Below B W W') (hB : W.heap.size ≤ B) : EvAt W' v X := ⟨h.1.below hb hB, fun p hp => (h.2 p hp).below hb hB⟩
theorem EvAt.form {W : World} {v : Value} {X : List (Ev × Value)} (h : EvAt W v X) : ∃ ad cap, v = .slice ad X.length cap := by
  obtain ⟨ad, cap, hv⟩ := h.1.form
  exact ⟨ad, cap, by rw [hv]; simp⟩
theorem EvAt.owned {W : World} {B : Nat} {v : Value} {X : List (Ev × Value)} (h : W.ownsRow B 65 5 v X.length (evCs X)) (ht : ∀ p ∈ X, Tx W p.2 p.1.l) : EvAt W v X :=
  ⟨RowAt.owned (e := 65) (B := B) (by rw [evL_flat, List.length_map]; exact h) (evL_len X), ht⟩
/-- The cells of one of them. -/
theorem EvAt.at {W : World} {v : Value} {X : List (Ev × Value)} (h : EvAt W v X) {j : Nat} {p : Ev × Value} (hj : X[j]? = some p) : ∃ g o cap, v = .slice (some ⟨g, o, none⟩) X.length cap ∧ g < W.heap.size ∧
    W.cell? ⟨g, o + j * 5, none⟩ = some (.int .i64 p.1.kind) ∧ W.cell? ⟨g, o + j * 5 + 1, none⟩ = some (.int .i64 p.1.n) ∧ W.cell? ⟨g, o + j * 5 + 2, none⟩ = some (str p.1.a) ∧ W.cell? ⟨g, o + j * 5 + 3, none⟩ = some (str p.1.b) ∧ W.cell? ⟨g, o + j * 5 + 4, none⟩ = some p.2 := by
  have hjl := (List.getElem?_eq_some_iff.1 hj).1
  rcases h.1 with ⟨h0, _⟩ | ⟨g, o, cap, h1, h2, h3, h4⟩
  · have : X = [] := by simpa using h0
    rw [this] at hj
    simp at hj
  · have hc := h4 j (evC p.1 p.2) (by rw [List.getElem?_map, hj]; rfl)
    exact ⟨g, o, cap, by simpa using h1, h3, hc 0 _ rfl, hc 1 _ rfl, hc 2 _ rfl, hc 3 _ rfl, hc 4 _ rfl⟩

/-- Events of one's own, each with its own list. -/
def EvOwn (W : World) (B : Nat) (v : Value) (X : List (Ev × Value)) : Prop := W.ownsRow B 65 5 v X.length (evCs X) ∧ ∀ p ∈ X, Ot W (fun i => B ≤ i) p.2 p.1.l
theorem EvOwn.at {W : World} {B : Nat} {v : Value} {X : List (Ev × Value)} (h : EvOwn W B v X) : EvAt W v X := EvAt.owned h.1 fun p hp => (h.2 p hp).tx
theorem EvOwn.below {W W' : World} {B : Nat} {v : Value} {X : List (Ev × Value)} (h : EvOwn W B v X) (hb : Below W.heap.size W W') : EvOwn W' B v X :=
  ⟨owns_turn h.1 (Turn.ofBelow (S := fun _ => False) hb) (fun _ _ h => h), fun p hp => (h.2 p hp).turn (Turn.ofBelow (S := fun _ => False) hb) (fun _ _ h => h)⟩
theorem EvOwn.snoc {W w2 w4 : World} {B : Nat} {v v' lv : Value} {X : List (Ev × Value)} {e : Ev} {o : Obj} (h : EvOwn W B v X) (hb2 : Below W.heap.size W w2) (hB : B ≤ W.heap.size) (ho : w2.ownsRow W.heap.size 9 1 lv e.l.length (txV e.l))
    (hown : w4.ownsRow B 65 5 v' (X.length + 1) (evCs X ++ evC e lv)) (hg : (w2.alloc o).grownBy w4 v.ownBlock) : EvOwn w4 B v' (X ++ [(e, lv)]) ∧ Below B W w4 := by
  have h3 : EvOwn (w2.alloc o) B v X := h.below (hb2.alloc hb2.size o)
  have ho3 := owns_turn ho (Turn.ofBelow (S := fun _ => False) (below_new w2 o)) (fun _ _ h => h)
  have hT := Turn.ofGrown hg
  refine ⟨⟨by rw [evCs_snoc, List.length_append]; exact hown, fun p hp => ?_⟩, ?_⟩
  · rcases List.mem_append.1 hp with hp | hp
    · exact (h3.2 p hp).turn hT (fun b hb e' => owns_apart2 h3.1 (h3.2 p hp).1 (by decide) b e' hb)
    · simp only [List.mem_singleton] at hp
      subst hp
      exact ⟨owns_turn (owns_lower ho3 (Nat.zero_le _)) hT (fun b hb e' => owns_apart2 h3.1 ho3 (by decide) b e' hb), fun b hb => Nat.le_trans hB (ho3.lt b hb).1⟩
  · exact ((hb2.alloc hb2.size o).mono hB).grown hg (Nat.le_trans hB (Nat.le_trans hb2.size (below_new w2 o).size)) (fun b hb => (h3.1.lt b hb).1)

/-- A function that asks for the kind. -/
def Asks (f : Nat) (p : Int → Bool) : Prop := (∀ args w, (callFunc f args).run Tryz.prog w = .ok (.enter f args) w) ∧ ∀ k W, Calls Tryz.prog f #[.int .i64 k] W fun e w' => e = .returned (.bool (p k)) ∧ w' = W

def kept (p : Int → Bool) (E : List Ev) (k : Nat) : List Ev := (E.take k).filter fun e => p e.kind
theorem kept_succ (p : Int → Bool) (E : List Ev) (k : Nat) (e : Ev) (h : E[k]? = some e) : kept p E (k + 1) = kept p E k ++ (if p e.kind then [e] else []) := by
  unfold kept
  rw [List.take_add_one, h, List.filter_append]
  cases hp : p e.kind <;> simp [hp]
theorem kept_length (p : Int → Bool) (E : List Ev) (k : Nat) : (kept p E k).length ≤ E.length := by
  unfold kept
  exact Nat.le_trans (List.length_filter_le _ _) (by simp; omega)

set_option maxRecDepth 100000 in
set_option maxHeartbeats 4000000 in
theorem pick_any (f : Nat) (p : Int → Bool) (hf : Asks f p) (v : Value) (X : List (Ev × Value)) (W : World) (h : EvAt W v X) (hX : X.length < 4294967296) (hl : ∀ q ∈ X, q.1.l.length < 4294967296) :
    Calls Tryz.prog 124 #[v, .func (.func f) #[] #[]] W fun e w' => ∃ v' X', e = .returned v' ∧ EvOwn w' W.heap.size v' X' ∧ X'.map Prod.fst = (X.map Prod.fst).filter (fun e => p e.kind) ∧ Below W.heap.size W w' := by
  obtain ⟨i0, hi, hz0, hz1, hz2⟩ := info_parts info70
  have HH : Hid (∀ W', Below W.heap.size W W' → EvAt W' v X) := fun W' hb => h.below hb (Nat.le_refl _)
  obtain ⟨ad, cap, rfl⟩ := h.form
  have hen := hf.1
  have HF : Hid (Asks f p) := hf
  have HL : Hid (∀ q ∈ X, q.1.l.length < 4294967296) := hl
  clear h hf hl
  go_enter Tryz.func124, Tryz.ntmps124
  go_wp2_with fail
  go_loopw [5, 10] (fun v5 v10 wr => ∃ (k : Nat) (X' : List (Ev × Value)), v10 = .int .i64 k ∧ k ≤ X.length ∧ Hid (EvOwn wr W.heap.size v5 X' ∧ X'.map Prod.fst = kept p (X.map Prod.fst) k) ∧ Below W.heap.size W wr) (fun _ v10 _ => X.length - (intOf v10).toNat)
  case atStart => exact ⟨0, [], rfl, by omega, ⟨⟨World.ownsRow_nil _ _ _ _, fun q hq => by simp at hq⟩, rfl⟩, Below.refl _ _⟩
  case round =>
    obtain ⟨k, X', rfl, hk, HK, hbr⟩ := hrel
    obtain ⟨adp, capp, rfl⟩ := owns_slice HK.out.1.1
    by_cases hkl : k < X.length
    · obtain ⟨q, hq⟩ : ∃ q, X[k]? = some q := ⟨_, List.getElem?_eq_getElem hkl⟩
      obtain ⟨g, o, cap', hv, hg, c0, c1, c2, c3, c4⟩ := (HH.out _ hbr).at hq
      cases hv
      have hqm := List.mem_of_getElem? hq
      have HQ : Hid (X[k]? = some q) := hq
      have HT : Hid (∀ W', Below W.heap.size W W' → Tx W' q.2 q.1.l) := fun W' hb => (HH.out W' hb).2 q hqm
      have hql := HL.out q hqm
      obtain ⟨⟨kd, nn, a, b, l⟩, lv⟩ := q
      obtain ⟨adl, capl, hlv⟩ := (HT.out _ hbr).form
      obtain rfl : lv = .slice adl l.length capl := hlv
      have HS := kept_succ p (X.map Prod.fst) k ⟨kd, nn, a, b, l⟩ (by rw [List.getElem?_map, hq]; rfl)
      have HLE := kept_length p (X.map Prod.fst) k
      rw [← HK.out.2, List.length_map, List.length_map] at HLE
      clear hq hqm
      have hba : Below W.heap.size W (wr.alloc (.cells #[.int .i64 kd, .int .i64 nn, str a, str b, .slice adl l.length capl] 65)) := hbr.alloc hbr.size _
      go_wp2_with fail
      refine (HF.out.2 kd _).mono ?_
      rintro e w1 ⟨rfl, hw1⟩
      subst hw1
      cases hp : p kd with
      | true =>
        rw [if_pos hp] at HS
        have HS' : Hid _ := HS
        clear hp HS c0 c1 c2 c3 c4
        go_wp2_with fail
        refine (own_any ⟨kd, nn, a, b, l⟩ _ _ (HT.out _ hba) hql).mono ?_
        rintro e w2 ⟨v2, rfl, ho2, hb2'⟩
        obtain ⟨ad2, cap2, rfl⟩ := owns_slice ho2
        have hwr : wr.heap.size ≤ (wr.alloc (.cells #[.int .i64 kd, .int .i64 nn, str a, str b, .slice adl l.length capl] 65)).heap.size := (below_new _ _).size
        have hb2 : Below wr.heap.size wr w2 := (below_new _ _).trans (hb2'.mono hwr)
        have hB : W.heap.size ≤ wr.heap.size := hbr.size
        have HO2 : Hid (w2.ownsRow wr.heap.size 9 1 (.slice ad2 l.length cap2) l.length (txV l)) := owns_lower ho2 hwr
        have HE3 : Hid (∀ o, (w2.alloc o).ownsRow W.heap.size 65 5 (.slice adp X'.length capp) X'.length (evCs X')) := fun o => (HK.out.1.below (hb2.alloc hb2.size o)).1
        have hB3 : W.heap.size ≤ (w2.alloc (.cells #[.int .i64 kd, .int .i64 nn, str a, str b, .slice ad2 l.length cap2] 65)).heap.size := Nat.le_trans hB (Nat.le_trans hb2.size (below_new _ _).size)
        clear ho2 hb2' hwr
        go_wp2_with (at_builtin; refine wpList_append_own _ rfl _ _ 52 rfl W.heap.size 65 i0 _ 5 72 Tryz.underlying52 hi hz0 hz1 hz2 rfl (by decide) _ _ _ rfl (HE3.out _) ⟨w2.heap.size, 0, none⟩ 1 1 (evC ⟨kd, nn, a, b, l⟩ (.slice ad2 l.length cap2)) rfl rfl (cells_new w2 _ 65) (evC_one _ _ _) (by have := maxLen_big; omega) (by omega) hB3 ?_; intro v4 w4 hown4 hgrow4 _)
        have hfin := EvOwn.snoc HK.out.1 hb2 hB HO2.out hown4 hgrow4
        refine ⟨⟨k + 1, X' ++ [(⟨kd, nn, a, b, l⟩, .slice ad2 l.length cap2)], by simp, by omega, ⟨hfin.1, ?_⟩, hbr.trans hfin.2⟩, by simp [intOf]; omega⟩
        rw [HS'.out, List.map_append, HK.out.2]
        rfl
      | false =>
        rw [if_neg (by rw [hp]; exact Bool.false_ne_true), List.append_nil] at HS
        have HS' : Hid _ := HS
        clear hp HS c0 c1 c2 c3 c4
        go_wp2_with fail
        exact ⟨⟨k + 1, X', by simp, by omega, ⟨HK.out.1.below (below_new _ _), by rw [HS'.out]; exact HK.out.2⟩, hba⟩, by simp [intOf]; omega⟩
    · have hkz : k = X.length := by omega
      subst hkz
      go_wp2_with fail
      go_ret
      refine ⟨_, X', rfl, HK.out.1, ?_, hbr⟩
      rw [HK.out.2]
      unfold kept
      rw [List.take_of_length_le (by simp)]
end Go.Proofs.YtfafhjglcaikoaaGreatDoor
