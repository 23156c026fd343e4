/- An event is noted. -/
import Derived.Test.YthhghkjgffcpeaaDoorNote
namespace Go.Proofs.YthhghkjgffcpeaaDoor
open Go.RowKit

theorem info70 : (Tryd.prog.info? 70).map (fun i => (i.zero, i.size, i.bytes)) = some (some (.agg #[.int .i64 0, .int .i64 0, .string ⟨#[]⟩, .string ⟨#[]⟩, .slice none 0 0]), 5, 72) := by kernel_rfl
/-- An append at its operation, in whatever walk. -/
theorem step_append {P : Program} {o : Oper} {a : Act} {w : World} {K : Act → World → Prop} {Q : Exit → Act → World → Prop} (s x : Operand) (t : TypeId)
    (ho : o.op = .call { callee := .builtin .append, args := #[s, x], argTypes := #[t, t] })
    (base : Nat) (e : TypeId) (i : TypeInfo) (z : Value) (size bytes : Nat) (ht : P.underlying t = some (.slice e)) (hi : P.info? e = some i) (hz : i.zero = some z)
    (hsize : i.size = size) (hby : i.bytes = bytes) (hzs : z.cells.size = size) (hsz : 0 < size)
    (v : Value) (n : Nat) (xs : List Value) (hs : a.eval s = v) (hown : w.ownsRow base e size v n xs)
    (ad : Addr) (m c : Nat) (news : List Value) (hx : a.eval x = .slice (some ad) m c) (hl : news.length = m * size) (hnews : ∀ j u, news[j]? = some u → w.cell? (ad.add j) = some u) (h1 : ∀ u ∈ news, u.oneCell' = true)
    (h63 : n + m ≤ maxLen) (hbytes : (n + m) * bytes ≤ 140737488355328) (hbase : base ≤ w.heap.size)
    (h : ∀ v' w', w'.ownsRow base e size v' (n + m) (xs ++ news) → w.grownBy w' v.ownBlock → (v' = .slice none 0 0 ↔ v = .slice none 0 0 ∧ m = 0) → (v'.ownBlock = v.ownBlock ∨ v'.ownBlock = some w.heap.size) → K (a.put o.dst v') w') :
    Oper.wp P o a w K Q := by
  obtain ⟨v', w', hr, h2, h3, h4, h5⟩ := run_append_own_at (P := P) w base t o.type e i z size bytes ht hi hz hsize hby hzs hsz v n xs hown ad m c news hl hnews h1 h63 hbytes hbase
  unfold Oper.wp execOp
  simp only [ho, resolve, invoke, builtin, Sem.run_bind, Sem.run_pure, Result.andThen_ok, List.map_toArray, List.map_cons, List.map_nil, hs, hx, hr]
  exact h v' w' h2 h3 h4 h5
theorem evC_one (e : Ev) (ad : Option Addr) (n : Nat) {cap : Nat} : ∀ u ∈ evC e (.slice ad n cap), u.oneCell' = true := by
  intro u hu
  simp at hu
  rcases hu with rfl | rfl | rfl | rfl | rfl <;> rfl
theorem cells_new (w : World) (cs : List Value) (t : TypeId) : ∀ j u, cs[j]? = some u → (w.alloc (.cells cs.toArray t)).cell? ((⟨w.heap.size, 0, none⟩ : Addr).add j) = some u := by
  intro j u hj
  have := (Cel.new w t cs.toArray).cell j
  have hadd : (⟨w.heap.size, 0, none⟩ : Addr).add j = ⟨w.heap.size, j, none⟩ := by
    unfold Addr.add
    split
    · rename_i h; subst h; rfl
    · simp
  rw [hadd, this]
  simpa using hj
/-- All that is owed behind the append. -/
theorem noted_fin {W w2 w4 : World} {K : Nat → Prop} {kb mb : Nat} {ev rv : Value} {F : Fls} {Y : List (Rw × Value)} {X : List (Ev × Value)} {e : Ev} {lv ev' : Value} {o : Obj}
    (HH : ∀ W', Below W.heap.size W W' → Kern W' K kb mb ev rv F Y X) (ho : w2.ownsRow W.heap.size 9 1 lv e.l.length (txV e.l)) (hb2 : Below W.heap.size W w2)
    (hown4 : w4.ownsRow 0 70 5 ev' (X.length + 1) (evCs X ++ evC e lv)) (hgrow4 : (w2.alloc o).grownBy w4 ev.ownBlock) (hat4 : ev'.ownBlock = ev.ownBlock ∨ ev'.ownBlock = some (w2.alloc o).heap.size) :
    w4.cell? ⟨kb, 0, none⟩ = some ev ∧ w4.frozen? ⟨kb, 0, none⟩ = false ∧ ∃ K', Kern (w4.setCell ⟨kb, 0, none⟩ ev') K' kb mb ev' rv F Y (X ++ [(e, lv)]) ∧ Stp W K (w4.setCell ⟨kb, 0, none⟩ ev') K' := by
  have hb3 := hb2.alloc hb2.size o
  have h3 := HH _ hb3
  have h0 := HH W (Below.refl _ _)
  have ho3 : (w2.alloc o).ownsRow 0 9 1 lv e.l.length (txV e.l) := owns_turn (owns_lower ho (Nat.zero_le _)) (Turn.ofBelow (S := fun _ => False) (below_new w2 o)) (fun _ _ h => h)
  have kc4 : Cel w4 kb 57 #[ev, .map (some mb), rv] := h3.kc.turn (Turn.ofGrown hgrow4) (fun e => owns_apart h3.kc h3.er (by decide) e)
  refine ⟨kc4.cell 0, kc4.frozen 0, ?_⟩
  obtain ⟨K', k1, k2, k3⟩ := Kern.noted h3 (Kl := fun i => W.heap.size ≤ i) ⟨ho3, fun b hb => (ho.lt b hb).1⟩ hown4 hgrow4 (hat4.imp id (fun h => ⟨_, h, Nat.le_refl _⟩))
  refine ⟨K', k1, (Turn.ofBelow hb3).trans k2 (fun i hi _ => hi), fun i hi => ?_⟩
  rcases k3 i hi with h | ⟨b, hb, rfl⟩ | h
  · exact .inl h
  · exact .inr (ho.lt i hb).1
  · exact .inr (Nat.le_trans hb3.size h)

set_option maxRecDepth 100000 in
set_option maxHeartbeats 4000000 in
theorem note_any {W : World} {K : Nat → Prop} {kb mb : Nat} {ev rv : Value} {F : Fls} {Y : List (Rw × Value)} {X : List (Ev × Value)} (e : Ev) (lv : Value) (h : Kern W K kb mb ev rv F Y X) (hX : X.length < 4294967296) (ht : Tx W lv e.l) (hl : e.l.length < 4294967296) :
    Calls Tryd.prog 50 #[kP kb, evV e lv] W fun r w' => r = .returned (.tuple #[]) ∧ ∃ ev' lv' K', Kern w' K' kb mb ev' rv F Y (X ++ [(e, lv')]) ∧ Stp W K w' K' := by
  obtain ⟨i0, hi, hz0, hz1, hz2⟩ := info_parts info70
  have HT : Hid (∀ W', Below W.heap.size W W' → Tx W' lv e.l) := fun W' hb => ht.below hb (Nat.le_refl _)
  have HH : Hid (∀ W', Below W.heap.size W W' → Kern W' K kb mb ev rv F Y X) := fun W' hb => h.below hb
  obtain ⟨ad, cap, rfl⟩ := ht.form
  obtain ⟨ade, cape, rfl⟩ := owns_slice h.er
  have HC : Hid (∀ W', Below W.heap.size W W' → W'.cell? ⟨kb, 0, none⟩ = some (.slice ade X.length cape)) := fun W' hb => (HH.out W' hb).kc.cell 0
  clear h ht
  go_enter Tryd.func50, Tryd.ntmps50
  go_wp2_with fail
  have hb1 : Below W.heap.size W (World.drew (W.alloc (.cells #[.int .i64 e.kind, .int .i64 e.n, str e.a, str e.b, .slice ad e.l.length cap] 70))) := (below_new W _).drew
  refine wp_region_any (by kernel_rfl) ?_
  try (change wpAny _ _ _ _ _ _ _ (World.drew _))
  refine wpAny_take (i := 0) (v := kP kb) rfl (by kernel_rfl) (by kernel_rfl) (by kernel_rfl) (fun _ _ _ h => h) (Or.inl ⟨by rfl, by intro wz; go_simp⟩) ?_
  try simp only [Act.put, List.getElem_toArray, List.getElem_cons_zero, List.setIfInBounds_toArray, List.set_cons_zero, List.set_cons_succ]
  refine wpAny_take (i := 1) (v := kP kb) rfl (by kernel_rfl) (by kernel_rfl) (by kernel_rfl) (fun _ _ _ h => h) (Or.inl ⟨by rfl, by intro wz; go_simp⟩) ?_
  try simp only [Act.put, List.getElem_toArray, List.getElem_cons_succ, List.getElem_cons_zero, List.setIfInBounds_toArray, List.set_cons_zero, List.set_cons_succ]
  refine wpAny_take (i := 2) (v := kP kb) rfl (by kernel_rfl) (by kernel_rfl) (by kernel_rfl) (fun _ _ _ h => h) (Or.inl ⟨by rfl, by intro wz; go_simp⟩) ?_
  try simp only [Act.put, List.getElem_toArray, List.getElem_cons_succ, List.getElem_cons_zero, List.setIfInBounds_toArray, List.set_cons_zero, List.set_cons_succ]
  refine wpAny_take (i := 3) (v := kP kb) rfl (by kernel_rfl) (by kernel_rfl) (by kernel_rfl) (fun _ _ _ h => h) (Or.inl ⟨by rfl, by intro wz; go_simp⟩) ?_
  try simp only [Act.put, List.getElem_toArray, List.getElem_cons_succ, List.getElem_cons_zero, List.setIfInBounds_toArray, List.set_cons_zero, List.set_cons_succ]
  refine wpAny_ready (rs := [4, 5]) (by kernel_rfl) (by simp) ?_
  refine AllReady.cons rfl (fun K hK => ?_) ?_
  · have c0 := HC.out _ hb1
    go_simp
    refine hK _ _ ?_
    clear hK K
    try simp only [Act.put, List.getElem_toArray, List.getElem_cons_succ, List.getElem_cons_zero, List.setIfInBounds_toArray, List.set_cons_zero, List.set_cons_succ]
    refine wpAny_ready (rs := [5]) (by kernel_rfl) (by simp) ?_
    refine AllReady.cons rfl (fun K hK => ?_) ?_
    · go_simp
      refine hK _ _ ?_
      clear hK K
      try simp only [Act.put, List.getElem_toArray, List.getElem_cons_succ, List.getElem_cons_zero, List.setIfInBounds_toArray, List.set_cons_zero, List.set_cons_succ]
      refine wpAny_ready (rs := [6]) (by kernel_rfl) (by simp) ?_
      refine AllReady.cons rfl (fun K hK => ?_) ?_
      · go_simp
        refine (own_any e _ _ (HT.out _ hb1) hl).mono ?_
        rintro r w2 ⟨v2, rfl, ho2, hb2'⟩
        obtain ⟨ad2, cap2, rfl⟩ := owns_slice ho2
        have hb2 := hb1.trans (hb2'.mono hb1.size)
        have HO2 : Hid (w2.ownsRow W.heap.size 9 1 (.slice ad2 e.l.length cap2) e.l.length (txV e.l)) := owns_lower ho2 hb1.size
        clear ho2 hb2'
        refine hK _ _ ?_
        clear hK K
        try simp only [Act.put, List.getElem_toArray, List.getElem_cons_succ, List.getElem_cons_zero, List.setIfInBounds_toArray, List.set_cons_zero, List.set_cons_succ]
        refine wpAny_ready (rs := [7]) (by kernel_rfl) (by simp) ?_
        refine AllReady.cons rfl (fun K hK => ?_) ?_
        · go_simp
          refine hK _ _ ?_
          clear hK K
          try simp only [Act.put, List.getElem_toArray, List.getElem_cons_succ, List.getElem_cons_zero, List.setIfInBounds_toArray, List.set_cons_zero, List.set_cons_succ]
          have hb3 := hb2.alloc hb2.size (.cells #[.int .i64 e.kind, .int .i64 e.n, str e.a, str e.b, .slice ad2 e.l.length cap2] 70)
          refine wpAny_ready (rs := [8]) (by kernel_rfl) (by simp) ?_
          refine AllReady.cons rfl (fun K hK => ?_) ?_
          · refine step_append _ _ 52 rfl 0 70 i0 _ 5 72 Tryd.underlying52 hi hz0 hz1 hz2 rfl (by decide) (.slice ade X.length cape) X.length (evCs X) rfl (HH.out _ hb3).er ⟨w2.heap.size, 0, none⟩ 1 1 (evC e (.slice ad2 e.l.length cap2)) rfl rfl (cells_new w2 _ 70) (evC_one _ _ _) (by have := maxLen_big; omega) (by omega) (Nat.zero_le _) ?_
            intro v4 w4 hown4 hgrow4 _ hat4
            refine hK _ _ ?_
            clear hK K
            try simp only [Act.put, List.getElem_toArray, List.getElem_cons_succ, List.getElem_cons_zero, List.setIfInBounds_toArray, List.set_cons_zero, List.set_cons_succ]
            obtain ⟨ad4, cap4, rfl⟩ := owns_slice hown4
            have NT : Hid _ := noted_fin HH.out HO2.out hb2 hown4 hgrow4 hat4
            have c4 : w4.cell? ⟨kb, 0, none⟩ = some (.slice ade X.length cape) := NT.out.1
            have f4 : w4.frozen? ⟨kb, 0, none⟩ = false := NT.out.2.1
            refine wpAny_take (i := 9) (v := kP kb) rfl (by kernel_rfl) (by kernel_rfl) (by kernel_rfl) (fun _ _ _ h => h) (Or.inl ⟨by rfl, by intro wz; go_simp⟩) ?_
            try simp only [Act.put, List.getElem_toArray, List.getElem_cons_succ, List.getElem_cons_zero, List.setIfInBounds_toArray, List.set_cons_zero, List.set_cons_succ]
            refine wpAny_take (i := 10) (v := kP kb) rfl (by kernel_rfl) (by kernel_rfl) (by kernel_rfl) (fun _ _ _ h => h) (Or.inl ⟨by rfl, by intro wz; go_simp⟩) ?_
            try simp only [Act.put, List.getElem_toArray, List.getElem_cons_succ, List.getElem_cons_zero, List.setIfInBounds_toArray, List.set_cons_zero, List.set_cons_succ]
            refine wpAny_ready (rs := [11]) (by kernel_rfl) (by simp) ?_
            refine AllReady.cons rfl (fun K hK => ?_) ?_
            · go_simp
              refine hK _ _ ?_
              clear hK K
              try simp only [Act.put, List.getElem_toArray, List.getElem_cons_succ, List.getElem_cons_zero, List.setIfInBounds_toArray, List.set_cons_zero, List.set_cons_succ]
              refine wpAny_done (by kernel_rfl) ?_ _
              go_wp2_with fail
              go_end0
              exact ⟨rfl, _, _, NT.out.2.2⟩
            exact AllReady.nil
          exact AllReady.nil
        exact AllReady.nil
      exact AllReady.nil
    exact AllReady.nil
  refine AllReady.cons rfl (fun K hK => ?_) ?_
  · go_simp
    refine hK _ _ ?_
    clear hK K
    try simp only [Act.put, List.getElem_toArray, List.getElem_cons_succ, List.getElem_cons_zero, List.setIfInBounds_toArray, List.set_cons_zero, List.set_cons_succ]
    refine wpAny_ready (rs := [4, 6]) (by kernel_rfl) (by simp) ?_
    refine AllReady.cons rfl (fun K hK => ?_) ?_
    · have c0 := HC.out _ hb1
      go_simp
      refine hK _ _ ?_
      clear hK K
      try simp only [Act.put, List.getElem_toArray, List.getElem_cons_succ, List.getElem_cons_zero, List.setIfInBounds_toArray, List.set_cons_zero, List.set_cons_succ]
      refine wpAny_ready (rs := [6]) (by kernel_rfl) (by simp) ?_
      refine AllReady.cons rfl (fun K hK => ?_) ?_
      · go_simp
        refine (own_any e _ _ (HT.out _ hb1) hl).mono ?_
        rintro r w2 ⟨v2, rfl, ho2, hb2'⟩
        obtain ⟨ad2, cap2, rfl⟩ := owns_slice ho2
        have hb2 := hb1.trans (hb2'.mono hb1.size)
        have HO2 : Hid (w2.ownsRow W.heap.size 9 1 (.slice ad2 e.l.length cap2) e.l.length (txV e.l)) := owns_lower ho2 hb1.size
        clear ho2 hb2'
        refine hK _ _ ?_
        clear hK K
        try simp only [Act.put, List.getElem_toArray, List.getElem_cons_succ, List.getElem_cons_zero, List.setIfInBounds_toArray, List.set_cons_zero, List.set_cons_succ]
        refine wpAny_ready (rs := [7]) (by kernel_rfl) (by simp) ?_
        refine AllReady.cons rfl (fun K hK => ?_) ?_
        · go_simp
          refine hK _ _ ?_
          clear hK K
          try simp only [Act.put, List.getElem_toArray, List.getElem_cons_succ, List.getElem_cons_zero, List.setIfInBounds_toArray, List.set_cons_zero, List.set_cons_succ]
          have hb3 := hb2.alloc hb2.size (.cells #[.int .i64 e.kind, .int .i64 e.n, str e.a, str e.b, .slice ad2 e.l.length cap2] 70)
          refine wpAny_ready (rs := [8]) (by kernel_rfl) (by simp) ?_
          refine AllReady.cons rfl (fun K hK => ?_) ?_
          · refine step_append _ _ 52 rfl 0 70 i0 _ 5 72 Tryd.underlying52 hi hz0 hz1 hz2 rfl (by decide) (.slice ade X.length cape) X.length (evCs X) rfl (HH.out _ hb3).er ⟨w2.heap.size, 0, none⟩ 1 1 (evC e (.slice ad2 e.l.length cap2)) rfl rfl (cells_new w2 _ 70) (evC_one _ _ _) (by have := maxLen_big; omega) (by omega) (Nat.zero_le _) ?_
            intro v4 w4 hown4 hgrow4 _ hat4
            refine hK _ _ ?_
            clear hK K
            try simp only [Act.put, List.getElem_toArray, List.getElem_cons_succ, List.getElem_cons_zero, List.setIfInBounds_toArray, List.set_cons_zero, List.set_cons_succ]
            obtain ⟨ad4, cap4, rfl⟩ := owns_slice hown4
            have NT : Hid _ := noted_fin HH.out HO2.out hb2 hown4 hgrow4 hat4
            have c4 : w4.cell? ⟨kb, 0, none⟩ = some (.slice ade X.length cape) := NT.out.1
            have f4 : w4.frozen? ⟨kb, 0, none⟩ = false := NT.out.2.1
            refine wpAny_take (i := 9) (v := kP kb) rfl (by kernel_rfl) (by kernel_rfl) (by kernel_rfl) (fun _ _ _ h => h) (Or.inl ⟨by rfl, by intro wz; go_simp⟩) ?_
            try simp only [Act.put, List.getElem_toArray, List.getElem_cons_succ, List.getElem_cons_zero, List.setIfInBounds_toArray, List.set_cons_zero, List.set_cons_succ]
            refine wpAny_take (i := 10) (v := kP kb) rfl (by kernel_rfl) (by kernel_rfl) (by kernel_rfl) (fun _ _ _ h => h) (Or.inl ⟨by rfl, by intro wz; go_simp⟩) ?_
            try simp only [Act.put, List.getElem_toArray, List.getElem_cons_succ, List.getElem_cons_zero, List.setIfInBounds_toArray, List.set_cons_zero, List.set_cons_succ]
            refine wpAny_ready (rs := [11]) (by kernel_rfl) (by simp) ?_
            refine AllReady.cons rfl (fun K hK => ?_) ?_
            · go_simp
              refine hK _ _ ?_
              clear hK K
              try simp only [Act.put, List.getElem_toArray, List.getElem_cons_succ, List.getElem_cons_zero, List.setIfInBounds_toArray, List.set_cons_zero, List.set_cons_succ]
              refine wpAny_done (by kernel_rfl) ?_ _
              go_wp2_with fail
              go_end0
              exact ⟨rfl, _, _, NT.out.2.2⟩
            exact AllReady.nil
          exact AllReady.nil
        exact AllReady.nil
      exact AllReady.nil
    refine AllReady.cons rfl (fun K hK => ?_) ?_
    · go_simp
      refine (own_any e _ _ (HT.out _ hb1) hl).mono ?_
      rintro r w2 ⟨v2, rfl, ho2, hb2'⟩
      obtain ⟨ad2, cap2, rfl⟩ := owns_slice ho2
      have hb2 := hb1.trans (hb2'.mono hb1.size)
      have HO2 : Hid (w2.ownsRow W.heap.size 9 1 (.slice ad2 e.l.length cap2) e.l.length (txV e.l)) := owns_lower ho2 hb1.size
      clear ho2 hb2'
      refine hK _ _ ?_
      clear hK K
      try simp only [Act.put, List.getElem_toArray, List.getElem_cons_succ, List.getElem_cons_zero, List.setIfInBounds_toArray, List.set_cons_zero, List.set_cons_succ]
      refine wpAny_ready (rs := [4, 7]) (by kernel_rfl) (by simp) ?_
      refine AllReady.cons rfl (fun K hK => ?_) ?_
      · have c0 := HC.out _ hb2
        go_simp
        refine hK _ _ ?_
        clear hK K
        try simp only [Act.put, List.getElem_toArray, List.getElem_cons_succ, List.getElem_cons_zero, List.setIfInBounds_toArray, List.set_cons_zero, List.set_cons_succ]
        refine wpAny_ready (rs := [7]) (by kernel_rfl) (by simp) ?_
        refine AllReady.cons rfl (fun K hK => ?_) ?_
        · go_simp
          refine hK _ _ ?_
          clear hK K
          try simp only [Act.put, List.getElem_toArray, List.getElem_cons_succ, List.getElem_cons_zero, List.setIfInBounds_toArray, List.set_cons_zero, List.set_cons_succ]
          have hb3 := hb2.alloc hb2.size (.cells #[.int .i64 e.kind, .int .i64 e.n, str e.a, str e.b, .slice ad2 e.l.length cap2] 70)
          refine wpAny_ready (rs := [8]) (by kernel_rfl) (by simp) ?_
          refine AllReady.cons rfl (fun K hK => ?_) ?_
          · refine step_append _ _ 52 rfl 0 70 i0 _ 5 72 Tryd.underlying52 hi hz0 hz1 hz2 rfl (by decide) (.slice ade X.length cape) X.length (evCs X) rfl (HH.out _ hb3).er ⟨w2.heap.size, 0, none⟩ 1 1 (evC e (.slice ad2 e.l.length cap2)) rfl rfl (cells_new w2 _ 70) (evC_one _ _ _) (by have := maxLen_big; omega) (by omega) (Nat.zero_le _) ?_
            intro v4 w4 hown4 hgrow4 _ hat4
            refine hK _ _ ?_
            clear hK K
            try simp only [Act.put, List.getElem_toArray, List.getElem_cons_succ, List.getElem_cons_zero, List.setIfInBounds_toArray, List.set_cons_zero, List.set_cons_succ]
            obtain ⟨ad4, cap4, rfl⟩ := owns_slice hown4
            have NT : Hid _ := noted_fin HH.out HO2.out hb2 hown4 hgrow4 hat4
            have c4 : w4.cell? ⟨kb, 0, none⟩ = some (.slice ade X.length cape) := NT.out.1
            have f4 : w4.frozen? ⟨kb, 0, none⟩ = false := NT.out.2.1
            refine wpAny_take (i := 9) (v := kP kb) rfl (by kernel_rfl) (by kernel_rfl) (by kernel_rfl) (fun _ _ _ h => h) (Or.inl ⟨by rfl, by intro wz; go_simp⟩) ?_
            try simp only [Act.put, List.getElem_toArray, List.getElem_cons_succ, List.getElem_cons_zero, List.setIfInBounds_toArray, List.set_cons_zero, List.set_cons_succ]
            refine wpAny_take (i := 10) (v := kP kb) rfl (by kernel_rfl) (by kernel_rfl) (by kernel_rfl) (fun _ _ _ h => h) (Or.inl ⟨by rfl, by intro wz; go_simp⟩) ?_
            try simp only [Act.put, List.getElem_toArray, List.getElem_cons_succ, List.getElem_cons_zero, List.setIfInBounds_toArray, List.set_cons_zero, List.set_cons_succ]
            refine wpAny_ready (rs := [11]) (by kernel_rfl) (by simp) ?_
            refine AllReady.cons rfl (fun K hK => ?_) ?_
            · go_simp
              refine hK _ _ ?_
              clear hK K
              try simp only [Act.put, List.getElem_toArray, List.getElem_cons_succ, List.getElem_cons_zero, List.setIfInBounds_toArray, List.set_cons_zero, List.set_cons_succ]
              refine wpAny_done (by kernel_rfl) ?_ _
              go_wp2_with fail
              go_end0
              exact ⟨rfl, _, _, NT.out.2.2⟩
            exact AllReady.nil
          exact AllReady.nil
        exact AllReady.nil
      refine AllReady.cons rfl (fun K hK => ?_) ?_
      · go_simp
        refine hK _ _ ?_
        clear hK K
        try simp only [Act.put, List.getElem_toArray, List.getElem_cons_succ, List.getElem_cons_zero, List.setIfInBounds_toArray, List.set_cons_zero, List.set_cons_succ]
        refine wpAny_ready (rs := [4]) (by kernel_rfl) (by simp) ?_
        refine AllReady.cons rfl (fun K hK => ?_) ?_
        · have c0 := HC.out _ (hb2.alloc hb2.size (.cells #[.int .i64 e.kind, .int .i64 e.n, str e.a, str e.b, .slice ad2 e.l.length cap2] 70))
          go_simp
          refine hK _ _ ?_
          clear hK K
          try simp only [Act.put, List.getElem_toArray, List.getElem_cons_succ, List.getElem_cons_zero, List.setIfInBounds_toArray, List.set_cons_zero, List.set_cons_succ]
          have hb3 := hb2.alloc hb2.size (.cells #[.int .i64 e.kind, .int .i64 e.n, str e.a, str e.b, .slice ad2 e.l.length cap2] 70)
          refine wpAny_ready (rs := [8]) (by kernel_rfl) (by simp) ?_
          refine AllReady.cons rfl (fun K hK => ?_) ?_
          · refine step_append _ _ 52 rfl 0 70 i0 _ 5 72 Tryd.underlying52 hi hz0 hz1 hz2 rfl (by decide) (.slice ade X.length cape) X.length (evCs X) rfl (HH.out _ hb3).er ⟨w2.heap.size, 0, none⟩ 1 1 (evC e (.slice ad2 e.l.length cap2)) rfl rfl (cells_new w2 _ 70) (evC_one _ _ _) (by have := maxLen_big; omega) (by omega) (Nat.zero_le _) ?_
            intro v4 w4 hown4 hgrow4 _ hat4
            refine hK _ _ ?_
            clear hK K
            try simp only [Act.put, List.getElem_toArray, List.getElem_cons_succ, List.getElem_cons_zero, List.setIfInBounds_toArray, List.set_cons_zero, List.set_cons_succ]
            obtain ⟨ad4, cap4, rfl⟩ := owns_slice hown4
            have NT : Hid _ := noted_fin HH.out HO2.out hb2 hown4 hgrow4 hat4
            have c4 : w4.cell? ⟨kb, 0, none⟩ = some (.slice ade X.length cape) := NT.out.1
            have f4 : w4.frozen? ⟨kb, 0, none⟩ = false := NT.out.2.1
            refine wpAny_take (i := 9) (v := kP kb) rfl (by kernel_rfl) (by kernel_rfl) (by kernel_rfl) (fun _ _ _ h => h) (Or.inl ⟨by rfl, by intro wz; go_simp⟩) ?_
            try simp only [Act.put, List.getElem_toArray, List.getElem_cons_succ, List.getElem_cons_zero, List.setIfInBounds_toArray, List.set_cons_zero, List.set_cons_succ]
            refine wpAny_take (i := 10) (v := kP kb) rfl (by kernel_rfl) (by kernel_rfl) (by kernel_rfl) (fun _ _ _ h => h) (Or.inl ⟨by rfl, by intro wz; go_simp⟩) ?_
            try simp only [Act.put, List.getElem_toArray, List.getElem_cons_succ, List.getElem_cons_zero, List.setIfInBounds_toArray, List.set_cons_zero, List.set_cons_succ]
            refine wpAny_ready (rs := [11]) (by kernel_rfl) (by simp) ?_
            refine AllReady.cons rfl (fun K hK => ?_) ?_
            · go_simp
              refine hK _ _ ?_
              clear hK K
              try simp only [Act.put, List.getElem_toArray, List.getElem_cons_succ, List.getElem_cons_zero, List.setIfInBounds_toArray, List.set_cons_zero, List.set_cons_succ]
              refine wpAny_done (by kernel_rfl) ?_ _
              go_wp2_with fail
              go_end0
              exact ⟨rfl, _, _, NT.out.2.2⟩
            exact AllReady.nil
          exact AllReady.nil
        exact AllReady.nil
      exact AllReady.nil
    exact AllReady.nil
  exact AllReady.nil
end Go.Proofs.YthhghkjgffcpeaaDoor
