/- What is marked is remembered, and erased. -/
import Derived.Test.YthhghkjgffcpeaaDoorFirst
namespace Go.Proofs.YthhghkjgffcpeaaDoor
open Go.RowKit Go.Shelf

/-- The value is a slice of these numbers. -/
def In (W : World) (v : Value) (zs : List Int) : Prop :=
  (v = .slice none 0 0 ∧ zs = []) ∨
  ∃ (ad : Addr) (cap : Nat), v = .slice (some ad) zs.length cap ∧ zs.length ≤ cap ∧ (zs ≠ [] → ∃ g o, ad = ⟨g, o, none⟩ ∧ g < W.heap.size ∧ ∀ k p, zs[k]? = some p → W.cell? ⟨g, o + k, none⟩ = some (.int .i64 p))
theorem In.below {W W' : World} {v : Value} {ps : List Int} {B : Nat} (h : In W v ps) (hb : Below B W W') (hB : W.heap.size ≤ B) : In W' v ps := by
  rcases h with h | ⟨ad, cap, h1, h2, h3⟩
  · exact .inl h
  · refine .inr ⟨ad, cap, h1, h2, fun hne => ?_⟩
    obtain ⟨g, o, rfl, h4, h5⟩ := h3 hne
    exact ⟨g, o, rfl, Nat.lt_of_lt_of_le h4 hb.size, fun k p hp => (hb.cell (p := ⟨g, o + k, none⟩) (by show g < B; omega)).trans (h5 k p hp)⟩
theorem In.form {W : World} {v : Value} {ps : List Int} (h : In W v ps) : ∃ ad cap, v = .slice ad ps.length cap := by
  rcases h with ⟨rfl, rfl⟩ | ⟨ad, cap, rfl, _⟩
  · exact ⟨none, 0, rfl⟩
  · exact ⟨_, cap, rfl⟩
theorem In.at {W : World} {v : Value} {ps : List Int} (h : In W v ps) {k : Nat} {p : Int} (hk : ps[k]? = some p) : ∃ g o cap, v = .slice (some ⟨g, o, none⟩) ps.length cap ∧ W.cell? ⟨g, o + k, none⟩ = some (.int .i64 p) := by
  rcases h with ⟨_, rfl⟩ | ⟨ad, cap, h1, h2, h3⟩
  · simp at hk
  · obtain ⟨g, o, rfl, h4, h5⟩ := h3 (fun e => by rw [e] at hk; simp at hk)
    exact ⟨g, o, cap, h1, h5 k p hk⟩

def markAt (ks ns : List Int) (i : Nat) : List Ev := match ks[i]? with | some x => marked x ((ns[i]?).getD 0) | none => []
def marks (ks ns : List Int) (k : Nat) : List Ev := (List.range k).flatMap (markAt ks ns)
theorem marks_succ (ks ns : List Int) (k : Nat) (x : Int) (h : ks[k]? = some x) : marks ks ns (k + 1) = marks ks ns k ++ marked x ((ns[k]?).getD 0) := by
  unfold marks
  rw [List.range_succ, List.flatMap_append]
  simp [markAt, h]
theorem marked_all (k n : Int) : ∀ e ∈ marked k n, markB e.kind = true ∧ e.l = [] := by
  intro e he
  unfold marked at he
  split at he
  · simp at he; subst he; exact ⟨by assumption, rfl⟩
  · simp at he
theorem marks_all (ks ns : List Int) (k : Nat) : ∀ e ∈ marks ks ns k, markB e.kind = true ∧ e.l = [] := by
  intro e he
  obtain ⟨i, _, hi⟩ := List.mem_flatMap.1 he
  unfold markAt at hi
  split at hi
  · exact marked_all _ _ e hi
  · simp at hi
theorem marked_length (k n : Int) : (marked k n).length ≤ 1 := by
  unfold marked
  split <;> simp
theorem marks_length (ks ns : List Int) : ∀ k, (marks ks ns k).length ≤ k
  | 0 => by simp [marks]
  | k + 1 => by
    have ih := marks_length ks ns k
    have h1 : (markAt ks ns k).length ≤ 1 := by
      unfold markAt
      split
      · exact marked_length _ _
      · simp
    unfold marks at ih ⊢
    rw [List.range_succ, List.flatMap_append, List.length_append, List.flatMap_cons, List.flatMap_nil, List.append_nil]
    omega
theorem marks_small {X : List (Ev × Value)} {ks ns : List Int} {k : Nat} (h : X.map Prod.fst = marks ks ns k) : ∀ q ∈ X, q.1.l.length < 4294967296 :=
  all_of (P := fun e => e.l.length < 4294967296) h fun e he => by rw [(marks_all _ _ _ e he).2]; exact Nat.zero_lt_succ _
theorem marks_erased (ks ns : List Int) (k : Nat) : erased (marks ks ns k) = [] := by
  unfold erased
  rw [List.filter_eq_nil_iff]
  intro e he
  rw [(marks_all ks ns k e he).1]
  simp
theorem markB_iff (x : Int) : markB x = true ↔ 4 ≤ x ∧ x ≤ 6 := by
  unfold markB
  simp
  omega

/-- The events that are wanted, beside the kernel. -/
def Wnt (W : World) (B : Nat) (K : Nat → Prop) (v : Value) (Z : List (Ev × Value)) : Prop := W.ownsRow B 70 5 v Z.length (evCs Z) ∧ (∀ b, v.ownBlock = some b → ¬ K b) ∧ ∀ q ∈ Z, q.2 = .slice none 0 0 ∧ q.1.l = []
theorem Wnt.evAt {W : World} {B : Nat} {K : Nat → Prop} {v : Value} {Z : List (Ev × Value)} (h : Wnt W B K v Z) : EvAt W v Z :=
  EvAt.owned h.1 fun p hp => by obtain ⟨h1, h2⟩ := h.2.2 p hp; rw [h1, h2]; exact Tx.nil _
theorem Wnt.stp {W W' : World} {B : Nat} {K K' : Nat → Prop} {v : Value} {Z : List (Ev × Value)} (h : Wnt W B K v Z) (hs : Stp W K W' K') : Wnt W' B K' v Z := by
  refine ⟨owns_turn h.1 hs.1 (fun b hb => h.2.1 b hb), fun b hb hk => ?_, h.2.2⟩
  rcases hs.2 b hk with h1 | h1
  · exact h.2.1 b hb h1
  · have := (h.1.lt b hb).2
    omega
theorem Wnt.app {W W' : World} {B : Nat} {K : Nat → Prop} {kb mb : Nat} {ev rv : Value} {F : Fls} {Y : List (Rw × Value)} {X : List (Ev × Value)} {v v' : Value} {Z : List (Ev × Value)} {e : Ev} {o : Obj} (he : e.l = []) (h : Wnt W B K v Z) (hk : Kern W K kb mb ev rv F Y X)
    (ho : W'.ownsRow B 70 5 v' (Z.length + 1) (evCs Z ++ evC e (.slice none 0 0))) (hg : (W.alloc o).grownBy W' v.ownBlock) (hat : v'.ownBlock = v.ownBlock ∨ v'.ownBlock = some (W.alloc o).heap.size) :
    Wnt W' B K v' (Z ++ [(e, .slice none 0 0)]) ∧ Kern W' K kb mb ev rv F Y X := by
  have hs : (W.alloc o).heap.size = W.heap.size + 1 := by simp
  refine ⟨⟨by rw [evCs_snoc, List.length_append]; exact ho, fun b hb hK => ?_, fun q hq => ?_⟩, (hk.below (below_new W o)).turn (Turn.ofGrown hg) (fun i hi e' => h.2.1 i e' hi)⟩
  · rcases hat with e' | e'
    · exact h.2.1 b (by rw [← e']; exact hb) hK
    · rw [hb] at e'
      cases e'
      have := hk.lt _ hK
      omega
  · rcases List.mem_append.1 hq with hq | hq
    · exact h.2.2 q hq
    · simp at hq
      subst hq
      exact ⟨rfl, he⟩

set_option maxRecDepth 100000 in
set_option maxHeartbeats 8000000 in
theorem marks_main (vk vn : Value) (ks ns : List Int) (ea : Nat → Addr) (W : World) (hk : In W vk ks) (hn : In W vn ns) (hlk : ks.length < 140737488355328) (_hln : ns.length < 140737488355328) (hE : Ers W ea) :
    Calls Tryd.prog 8 #[vk, vn] W fun e w' => e = .returned (.bool true) ∧ Below W.heap.size W w' := by
  obtain ⟨i0, hi, hz0, hz1, hz2⟩ := info_parts info70
  have HK : Hid (∀ W', Below W.heap.size W W' → In W' vk ks) := fun W' h => hk.below h (Nat.le_refl _)
  have HN : Hid (∀ W', Below W.heap.size W W' → In W' vn ns) := fun W' h => hn.below h (Nat.le_refl _)
  have HE : Hid (∀ W', Below W.heap.size W W' → Ers W' ea) := fun W' h => hE.below h (Nat.le_refl _)
  obtain ⟨adk, capk, rfl⟩ := hk.form
  obtain ⟨adn, capn, rfl⟩ := hn.form
  clear hk hn hE
  go_enter Tryd.func8, Tryd.ntmps8
  go_wp2_with fail
  refine (first_any ea W (HE.out _ (Below.refl _ _))).mono ?_
  rintro e w1 ⟨rfl, hb1⟩
  by_cases h40 : 40 < ks.length
  · go_wp2_with fail
    go_ret
    exact ⟨rfl, hb1⟩
  have h40' : decide ((40 : Int) < (ks.length : Int)) = false := decide_eq_false (by omega)
  go_wp2_with fail
  refine (new_any (.slice none 0 0) (.slice none 0 0) [] [] ea w1 (.inl ⟨rfl, none, 0, rfl⟩) ⟨.inl ⟨rfl, none, 0, rfl⟩, fun p hp => by simp at hp⟩ (by decide) (by decide) (by decide) (by decide) (HE.out _ hb1) (by decide)).mono ?_
  rintro e w2 ⟨kb, mb, rv, Y, K0, rfl, kn, hY, hK0, b2⟩
  have hYn : Y = [] := by simpa using hY
  subst hYn
  have HK0 : Hid (Kern w2 K0 kb mb (.slice none 0 0) rv [] [] []) := kn
  have hb2 := hb1.trans (b2.mono hb1.size)
  have HW0 : Hid (∀ i, K0 i → w1.heap.size ≤ i) := hK0
  have HS1 : Hid (W.heap.size ≤ w1.heap.size ∧ w1.heap.size ≤ w2.heap.size) := ⟨hb1.size, b2.size⟩
  clear kn b2 hb1 hK0 hY h40'
  go_wp2_with fail
  go_loopw [8, 9] (fun v8 v9 wr => ∃ (k : Nat) (KK : Nat → Prop) (ev : Value) (X Z : List (Ev × Value)), v9 = .int .i64 k ∧ k ≤ ks.length ∧ Hid (Kern wr KK kb mb ev rv [] [] X ∧ X.map Prod.fst = marks ks ns k ∧ (∀ i, KK i → W.heap.size ≤ i) ∧ Wnt wr W.heap.size KK v8 Z ∧ Z.map Prod.fst = marks ks ns k) ∧ Below W.heap.size W wr) (fun _ v9 _ => ks.length - (intOf v9).toNat)
  case atStart => exact ⟨0, K0, _, [], [], rfl, by omega, ⟨HK0.out, rfl, fun i hi => Nat.le_trans HS1.out.1 (HW0.out i hi), ⟨World.ownsRow_nil _ _ _ _, fun b hb => by simp [Value.ownBlock] at hb, fun q hq => by simp at hq⟩, rfl⟩, hb2⟩
  case round =>
    obtain ⟨k, KK, ev, X, Z, rfl, hk, HR, hbr⟩ := hrel
    obtain ⟨adz, capz, rfl⟩ := owns_slice HR.out.2.2.2.1.1
    have HXL : Hid (X.length ≤ k ∧ Z.length ≤ k) := by
      unfold Hid
      have h1 := marks_length ks ns k
      rw [len_of HR.out.2.1, len_of HR.out.2.2.2.2]
      exact ⟨h1, h1⟩
    by_cases hkl : k < ks.length
    · obtain ⟨x, hx⟩ : ∃ x, ks[k]? = some x := ⟨_, List.getElem?_eq_getElem hkl⟩
      obtain ⟨gk, ok, capk', hv, cx⟩ := (HK.out _ hbr).at hx
      cases hv
      have HX : Hid (ks[k]? = some x) := hx
      have hbd : Below W.heap.size W wr.drew := hbr.drew
      have cxd : wr.drew.cell? ⟨gk, ok + k, none⟩ = some (.int .i64 x) := cx
      have hki : (k : Int) < (ks.length : Int) := by omega
      have hXl : X.length < 4294967296 := by have := HXL.out; omega
      have hZl : Z.length < 4294967296 := by have := HXL.out; omega
      clear hx
      by_cases hkn : k < ns.length
      · obtain ⟨y, hy⟩ : ∃ y, ns[k]? = some y := ⟨_, List.getElem?_eq_getElem hkn⟩
        obtain ⟨gn, on, capn', hv, cy⟩ := (HN.out _ hbr).at hy
        cases hv
        have HMS : Hid (marks ks ns (k + 1) = marks ks ns k ++ marked x y) := by unfold Hid; rw [marks_succ ks ns k x HX.out, hy]; rfl
        clear hy
        have hkni : (k : Int) < (ns.length : Int) := by omega
        cases hm : markB x
        · go_wp2_with fail
          refine wp_region_any (by kernel_rfl) ?_
          try (change wpAny _ _ _ _ _ _ _ (World.drew _))
          refine wpAny_take (i := 0) (v := kP kb) rfl (by kernel_rfl) (by kernel_rfl) (by kernel_rfl) (fun _ _ _ h => h) (Or.inl ⟨by rfl, by intro wz; go_simp⟩) ?_
          try simp only [Act.put, List.getElem_toArray, List.getElem_cons_zero, List.setIfInBounds_toArray, List.set_cons_zero, List.set_cons_succ]
          refine wpAny_take (i := 1) (v := kP kb) rfl (by kernel_rfl) (by kernel_rfl) (by kernel_rfl) (fun _ _ _ h => h) (Or.inl ⟨by rfl, by intro wz; go_simp⟩) ?_
          try simp only [Act.put, List.getElem_toArray, List.getElem_cons_succ, List.getElem_cons_zero, List.setIfInBounds_toArray, List.set_cons_zero, List.set_cons_succ]
          refine wpAny_take (i := 2) (v := kP kb) rfl (by kernel_rfl) (by kernel_rfl) (by kernel_rfl) (fun _ _ _ h => h) (Or.inl ⟨by rfl, by intro wz; go_simp⟩) ?_
          try simp only [Act.put, List.getElem_toArray, List.getElem_cons_succ, List.getElem_cons_zero, List.setIfInBounds_toArray, List.set_cons_zero, List.set_cons_succ]
          refine wpAny_take (i := 3) (v := .slice (some ⟨gk, ok, none⟩) ks.length capk) rfl (by kernel_rfl) (by kernel_rfl) (by kernel_rfl) (fun _ _ _ h => h) (Or.inl ⟨by rfl, by intro wz; go_simp⟩) ?_
          try simp only [Act.put, List.getElem_toArray, List.getElem_cons_succ, List.getElem_cons_zero, List.setIfInBounds_toArray, List.set_cons_zero, List.set_cons_succ]
          refine wpAny_take (i := 4) (v := .int .i64 (k : Int)) rfl (by kernel_rfl) (by kernel_rfl) (by kernel_rfl) (fun _ _ _ h => h) (Or.inl ⟨by rfl, by intro wz; go_simp⟩) ?_
          try simp only [Act.put, List.getElem_toArray, List.getElem_cons_succ, List.getElem_cons_zero, List.setIfInBounds_toArray, List.set_cons_zero, List.set_cons_succ]
          refine wpAny_take (i := 5) (v := .pointer (some ⟨gk, ok + k, none⟩)) rfl (by kernel_rfl) (by kernel_rfl) (by kernel_rfl) (fun _ _ _ h => h) (Or.inl ⟨by rfl, by intro wz; go_simp⟩) ?_
          try simp only [Act.put, List.getElem_toArray, List.getElem_cons_succ, List.getElem_cons_zero, List.setIfInBounds_toArray, List.set_cons_zero, List.set_cons_succ]
          refine wpAny_take (i := 7) (v := .int .i64 y) rfl (by kernel_rfl) (by kernel_rfl) (by kernel_rfl) (fun _ _ _ h => h) (Or.inl ⟨by rfl, by intro wz; go_simp⟩) ?_
          try simp only [Act.put, List.getElem_toArray, List.getElem_cons_succ, List.getElem_cons_zero, List.setIfInBounds_toArray, List.set_cons_zero, List.set_cons_succ]
          refine wpAny_ready (rs := [6]) (by kernel_rfl) (by simp) ?_
          refine AllReady.cons rfl (fun K hK => ?_) ?_
          · go_simp
            refine hK _ _ ?_
            clear hK K
            try simp only [Act.put, List.getElem_toArray, List.getElem_cons_succ, List.getElem_cons_zero, List.setIfInBounds_toArray, List.set_cons_zero, List.set_cons_succ]
            refine wpAny_ready (rs := [8]) (by kernel_rfl) (by simp) ?_
            refine AllReady.cons rfl (fun K hK => ?_) ?_
            · go_simp
              refine (mark_any x y (HR.out.1.below (Below.refl _ _).drew) hXl).mono ?_
              rintro e w3 ⟨rfl, ev', X', K', k1, k2, k3⟩
              have k3' : Stp wr KK w3 K' := (Stp.ofBelow (Below.refl _ wr).drew).trans k3
              have HK3 : Hid (Kern w3 K' kb mb ev' rv [] [] (X ++ X') ∧ (X ++ X').map Prod.fst = marks ks ns (k + 1)) := ⟨k1, by rw [HMS.out]; exact map_app HR.out.2.1 k2⟩
              have hkk := k3'.below HR.out.2.2.1 hbr.size
              have HKB : Hid (∀ i, K' i → W.heap.size ≤ i) := hkk.2
              have HZ3 : Hid (Wnt w3 W.heap.size K' (.slice adz Z.length capz) Z) := HR.out.2.2.2.1.stp k3'
              have hb3 := hbr.trans hkk.1
              obtain ⟨gk3, ok3, capk3, hv3, cx3⟩ := (HK.out _ hb3).at HX.out
              cases hv3
              clear k1 k2 k3 k3' hkk cx cxd
              refine hK _ _ ?_
              clear hK K
              try simp only [Act.put, List.getElem_toArray, List.getElem_cons_succ, List.getElem_cons_zero, List.setIfInBounds_toArray, List.set_cons_zero, List.set_cons_succ]
              refine wpAny_done (by kernel_rfl) ?_ _
              have HMK : Hid (marked x y = []) := by unfold Hid marked; rw [hm]; rfl
              have hnm : ¬ ((4 : Int) ≤ x ∧ x ≤ 6) := fun h => by rw [(markB_iff x).2 h] at hm; cases hm
              by_cases h4 : (4 : Int) ≤ x
              · have h6 : ¬ x ≤ 6 := fun h => hnm ⟨h4, h⟩
                have h6' : decide (x ≤ 6) = false := decide_eq_false h6
                clear hnm hm
                go_wp2_with fail
                refine ⟨⟨k + 1, K', ev', X ++ X', Z, by simp, by omega, ⟨HK3.out.1, HK3.out.2, HKB.out, HZ3.out, ?_⟩, hb3⟩, by simp [intOf]; omega⟩
                rw [HMS.out, HMK.out, List.append_nil]
                exact HR.out.2.2.2.2
              · have h4' : decide ((4 : Int) ≤ x) = false := decide_eq_false h4
                clear hnm hm
                go_wp2_with fail
                refine ⟨⟨k + 1, K', ev', X ++ X', Z, by simp, by omega, ⟨HK3.out.1, HK3.out.2, HKB.out, HZ3.out, ?_⟩, hb3⟩, by simp [intOf]; omega⟩
                rw [HMS.out, HMK.out, List.append_nil]
                exact HR.out.2.2.2.2
            exact AllReady.nil
          exact AllReady.nil
        · go_wp2_with fail
          refine wp_region_any (by kernel_rfl) ?_
          try (change wpAny _ _ _ _ _ _ _ (World.drew _))
          refine wpAny_take (i := 0) (v := kP kb) rfl (by kernel_rfl) (by kernel_rfl) (by kernel_rfl) (fun _ _ _ h => h) (Or.inl ⟨by rfl, by intro wz; go_simp⟩) ?_
          try simp only [Act.put, List.getElem_toArray, List.getElem_cons_zero, List.setIfInBounds_toArray, List.set_cons_zero, List.set_cons_succ]
          refine wpAny_take (i := 1) (v := kP kb) rfl (by kernel_rfl) (by kernel_rfl) (by kernel_rfl) (fun _ _ _ h => h) (Or.inl ⟨by rfl, by intro wz; go_simp⟩) ?_
          try simp only [Act.put, List.getElem_toArray, List.getElem_cons_succ, List.getElem_cons_zero, List.setIfInBounds_toArray, List.set_cons_zero, List.set_cons_succ]
          refine wpAny_take (i := 2) (v := kP kb) rfl (by kernel_rfl) (by kernel_rfl) (by kernel_rfl) (fun _ _ _ h => h) (Or.inl ⟨by rfl, by intro wz; go_simp⟩) ?_
          try simp only [Act.put, List.getElem_toArray, List.getElem_cons_succ, List.getElem_cons_zero, List.setIfInBounds_toArray, List.set_cons_zero, List.set_cons_succ]
          refine wpAny_take (i := 3) (v := .slice (some ⟨gk, ok, none⟩) ks.length capk) rfl (by kernel_rfl) (by kernel_rfl) (by kernel_rfl) (fun _ _ _ h => h) (Or.inl ⟨by rfl, by intro wz; go_simp⟩) ?_
          try simp only [Act.put, List.getElem_toArray, List.getElem_cons_succ, List.getElem_cons_zero, List.setIfInBounds_toArray, List.set_cons_zero, List.set_cons_succ]
          refine wpAny_take (i := 4) (v := .int .i64 (k : Int)) rfl (by kernel_rfl) (by kernel_rfl) (by kernel_rfl) (fun _ _ _ h => h) (Or.inl ⟨by rfl, by intro wz; go_simp⟩) ?_
          try simp only [Act.put, List.getElem_toArray, List.getElem_cons_succ, List.getElem_cons_zero, List.setIfInBounds_toArray, List.set_cons_zero, List.set_cons_succ]
          refine wpAny_take (i := 5) (v := .pointer (some ⟨gk, ok + k, none⟩)) rfl (by kernel_rfl) (by kernel_rfl) (by kernel_rfl) (fun _ _ _ h => h) (Or.inl ⟨by rfl, by intro wz; go_simp⟩) ?_
          try simp only [Act.put, List.getElem_toArray, List.getElem_cons_succ, List.getElem_cons_zero, List.setIfInBounds_toArray, List.set_cons_zero, List.set_cons_succ]
          refine wpAny_take (i := 7) (v := .int .i64 y) rfl (by kernel_rfl) (by kernel_rfl) (by kernel_rfl) (fun _ _ _ h => h) (Or.inl ⟨by rfl, by intro wz; go_simp⟩) ?_
          try simp only [Act.put, List.getElem_toArray, List.getElem_cons_succ, List.getElem_cons_zero, List.setIfInBounds_toArray, List.set_cons_zero, List.set_cons_succ]
          refine wpAny_ready (rs := [6]) (by kernel_rfl) (by simp) ?_
          refine AllReady.cons rfl (fun K hK => ?_) ?_
          · go_simp
            refine hK _ _ ?_
            clear hK K
            try simp only [Act.put, List.getElem_toArray, List.getElem_cons_succ, List.getElem_cons_zero, List.setIfInBounds_toArray, List.set_cons_zero, List.set_cons_succ]
            refine wpAny_ready (rs := [8]) (by kernel_rfl) (by simp) ?_
            refine AllReady.cons rfl (fun K hK => ?_) ?_
            · go_simp
              refine (mark_any x y (HR.out.1.below (Below.refl _ _).drew) hXl).mono ?_
              rintro e w3 ⟨rfl, ev', X', K', k1, k2, k3⟩
              have k3' : Stp wr KK w3 K' := (Stp.ofBelow (Below.refl _ wr).drew).trans k3
              have HK3 : Hid (Kern w3 K' kb mb ev' rv [] [] (X ++ X') ∧ (X ++ X').map Prod.fst = marks ks ns (k + 1)) := ⟨k1, by rw [HMS.out]; exact map_app HR.out.2.1 k2⟩
              have hkk := k3'.below HR.out.2.2.1 hbr.size
              have HKB : Hid (∀ i, K' i → W.heap.size ≤ i) := hkk.2
              have HZ3 : Hid (Wnt w3 W.heap.size K' (.slice adz Z.length capz) Z) := HR.out.2.2.2.1.stp k3'
              have hb3 := hbr.trans hkk.1
              obtain ⟨gk3, ok3, capk3, hv3, cx3⟩ := (HK.out _ hb3).at HX.out
              cases hv3
              clear k1 k2 k3 k3' hkk cx cxd
              refine hK _ _ ?_
              clear hK K
              try simp only [Act.put, List.getElem_toArray, List.getElem_cons_succ, List.getElem_cons_zero, List.setIfInBounds_toArray, List.set_cons_zero, List.set_cons_succ]
              refine wpAny_done (by kernel_rfl) ?_ _
              have hmk2 : (4 : Int) ≤ x ∧ x ≤ 6 := (markB_iff x).1 hm
              have HMK : Hid (marked x y = [⟨x, y, [], [], []⟩]) := by unfold Hid marked; rw [hm]; rfl
              have hmA := hmk2.1
              have hmB := hmk2.2
              have HBA : Hid (∀ o, W.heap.size ≤ (w3.alloc o).heap.size ∧ (w3.alloc o).ownsRow W.heap.size 70 5 (.slice adz Z.length capz) Z.length (evCs Z)) := fun o => ⟨Nat.le_trans hb3.size (below_new w3 o).size, owns_below HZ3.out.1 (below_new w3 o)⟩
              clear hmk2
              go_wp2_with (at_builtin; refine wpList_append_own_at _ rfl _ _ 52 rfl W.heap.size 70 i0 _ 5 72 Tryd.underlying52 hi hz0 hz1 hz2 rfl (by decide) _ _ _ rfl (HBA.out _).2 ⟨w3.heap.size, 0, none⟩ 1 1 (evC ⟨x, y, [], [], []⟩ (.slice none 0 0)) rfl rfl (cells_new w3 _ 70) (evC_one _ _ _) (by have := maxLen_big; omega) (by omega) (HBA.out _).1 ?_; intro v5 w5 hown5 hgrow5 _ hat5)
              have hap := Wnt.app (e := ⟨x, y, [], [], []⟩) rfl HZ3.out HK3.out.1 hown5 hgrow5 hat5
              have hb5 : Below W.heap.size W w5 := grown_own (HBA.out _).1 (hb3.alloc hb3.size _) (HBA.out _).2 hgrow5
              refine ⟨⟨k + 1, K', ev', X ++ X', Z ++ [(⟨x, y, [], [], []⟩, .slice none 0 0)], by simp, by omega, ⟨hap.2, HK3.out.2, HKB.out, hap.1, ?_⟩, hb5⟩, by simp [intOf]; omega⟩
              rw [HMS.out, HMK.out, List.map_append, HR.out.2.2.2.2]
              rfl
            exact AllReady.nil
          exact AllReady.nil
      · have HMS : Hid (marks ks ns (k + 1) = marks ks ns k ++ marked x 0) := by unfold Hid; rw [marks_succ ks ns k x HX.out, List.getElem?_eq_none (by omega)]; rfl
        have hkni : ¬ (k : Int) < (ns.length : Int) := by omega
        cases hm : markB x
        · go_wp2_with fail
          refine wp_region_any (by kernel_rfl) ?_
          try (change wpAny _ _ _ _ _ _ _ (World.drew _))
          refine wpAny_take (i := 0) (v := kP kb) rfl (by kernel_rfl) (by kernel_rfl) (by kernel_rfl) (fun _ _ _ h => h) (Or.inl ⟨by rfl, by intro wz; go_simp⟩) ?_
          try simp only [Act.put, List.getElem_toArray, List.getElem_cons_zero, List.setIfInBounds_toArray, List.set_cons_zero, List.set_cons_succ]
          refine wpAny_take (i := 1) (v := kP kb) rfl (by kernel_rfl) (by kernel_rfl) (by kernel_rfl) (fun _ _ _ h => h) (Or.inl ⟨by rfl, by intro wz; go_simp⟩) ?_
          try simp only [Act.put, List.getElem_toArray, List.getElem_cons_succ, List.getElem_cons_zero, List.setIfInBounds_toArray, List.set_cons_zero, List.set_cons_succ]
          refine wpAny_take (i := 2) (v := kP kb) rfl (by kernel_rfl) (by kernel_rfl) (by kernel_rfl) (fun _ _ _ h => h) (Or.inl ⟨by rfl, by intro wz; go_simp⟩) ?_
          try simp only [Act.put, List.getElem_toArray, List.getElem_cons_succ, List.getElem_cons_zero, List.setIfInBounds_toArray, List.set_cons_zero, List.set_cons_succ]
          refine wpAny_take (i := 3) (v := .slice (some ⟨gk, ok, none⟩) ks.length capk) rfl (by kernel_rfl) (by kernel_rfl) (by kernel_rfl) (fun _ _ _ h => h) (Or.inl ⟨by rfl, by intro wz; go_simp⟩) ?_
          try simp only [Act.put, List.getElem_toArray, List.getElem_cons_succ, List.getElem_cons_zero, List.setIfInBounds_toArray, List.set_cons_zero, List.set_cons_succ]
          refine wpAny_take (i := 4) (v := .int .i64 (k : Int)) rfl (by kernel_rfl) (by kernel_rfl) (by kernel_rfl) (fun _ _ _ h => h) (Or.inl ⟨by rfl, by intro wz; go_simp⟩) ?_
          try simp only [Act.put, List.getElem_toArray, List.getElem_cons_succ, List.getElem_cons_zero, List.setIfInBounds_toArray, List.set_cons_zero, List.set_cons_succ]
          refine wpAny_take (i := 5) (v := .pointer (some ⟨gk, ok + k, none⟩)) rfl (by kernel_rfl) (by kernel_rfl) (by kernel_rfl) (fun _ _ _ h => h) (Or.inl ⟨by rfl, by intro wz; go_simp⟩) ?_
          try simp only [Act.put, List.getElem_toArray, List.getElem_cons_succ, List.getElem_cons_zero, List.setIfInBounds_toArray, List.set_cons_zero, List.set_cons_succ]
          refine wpAny_take (i := 7) (v := .int .i64 0) rfl (by kernel_rfl) (by kernel_rfl) (by kernel_rfl) (fun _ _ _ h => h) (Or.inl ⟨by rfl, by intro wz; go_simp⟩) ?_
          try simp only [Act.put, List.getElem_toArray, List.getElem_cons_succ, List.getElem_cons_zero, List.setIfInBounds_toArray, List.set_cons_zero, List.set_cons_succ]
          refine wpAny_ready (rs := [6]) (by kernel_rfl) (by simp) ?_
          refine AllReady.cons rfl (fun K hK => ?_) ?_
          · go_simp
            refine hK _ _ ?_
            clear hK K
            try simp only [Act.put, List.getElem_toArray, List.getElem_cons_succ, List.getElem_cons_zero, List.setIfInBounds_toArray, List.set_cons_zero, List.set_cons_succ]
            refine wpAny_ready (rs := [8]) (by kernel_rfl) (by simp) ?_
            refine AllReady.cons rfl (fun K hK => ?_) ?_
            · go_simp
              refine (mark_any x 0 (HR.out.1.below (Below.refl _ _).drew) hXl).mono ?_
              rintro e w3 ⟨rfl, ev', X', K', k1, k2, k3⟩
              have k3' : Stp wr KK w3 K' := (Stp.ofBelow (Below.refl _ wr).drew).trans k3
              have HK3 : Hid (Kern w3 K' kb mb ev' rv [] [] (X ++ X') ∧ (X ++ X').map Prod.fst = marks ks ns (k + 1)) := ⟨k1, by rw [HMS.out]; exact map_app HR.out.2.1 k2⟩
              have hkk := k3'.below HR.out.2.2.1 hbr.size
              have HKB : Hid (∀ i, K' i → W.heap.size ≤ i) := hkk.2
              have HZ3 : Hid (Wnt w3 W.heap.size K' (.slice adz Z.length capz) Z) := HR.out.2.2.2.1.stp k3'
              have hb3 := hbr.trans hkk.1
              obtain ⟨gk3, ok3, capk3, hv3, cx3⟩ := (HK.out _ hb3).at HX.out
              cases hv3
              clear k1 k2 k3 k3' hkk cx cxd
              refine hK _ _ ?_
              clear hK K
              try simp only [Act.put, List.getElem_toArray, List.getElem_cons_succ, List.getElem_cons_zero, List.setIfInBounds_toArray, List.set_cons_zero, List.set_cons_succ]
              refine wpAny_done (by kernel_rfl) ?_ _
              have HMK : Hid (marked x 0 = []) := by unfold Hid marked; rw [hm]; rfl
              have hnm : ¬ ((4 : Int) ≤ x ∧ x ≤ 6) := fun h => by rw [(markB_iff x).2 h] at hm; cases hm
              by_cases h4 : (4 : Int) ≤ x
              · have h6 : ¬ x ≤ 6 := fun h => hnm ⟨h4, h⟩
                have h6' : decide (x ≤ 6) = false := decide_eq_false h6
                clear hnm hm
                go_wp2_with fail
                refine ⟨⟨k + 1, K', ev', X ++ X', Z, by simp, by omega, ⟨HK3.out.1, HK3.out.2, HKB.out, HZ3.out, ?_⟩, hb3⟩, by simp [intOf]; omega⟩
                rw [HMS.out, HMK.out, List.append_nil]
                exact HR.out.2.2.2.2
              · have h4' : decide ((4 : Int) ≤ x) = false := decide_eq_false h4
                clear hnm hm
                go_wp2_with fail
                refine ⟨⟨k + 1, K', ev', X ++ X', Z, by simp, by omega, ⟨HK3.out.1, HK3.out.2, HKB.out, HZ3.out, ?_⟩, hb3⟩, by simp [intOf]; omega⟩
                rw [HMS.out, HMK.out, List.append_nil]
                exact HR.out.2.2.2.2
            exact AllReady.nil
          exact AllReady.nil
        · go_wp2_with fail
          refine wp_region_any (by kernel_rfl) ?_
          try (change wpAny _ _ _ _ _ _ _ (World.drew _))
          refine wpAny_take (i := 0) (v := kP kb) rfl (by kernel_rfl) (by kernel_rfl) (by kernel_rfl) (fun _ _ _ h => h) (Or.inl ⟨by rfl, by intro wz; go_simp⟩) ?_
          try simp only [Act.put, List.getElem_toArray, List.getElem_cons_zero, List.setIfInBounds_toArray, List.set_cons_zero, List.set_cons_succ]
          refine wpAny_take (i := 1) (v := kP kb) rfl (by kernel_rfl) (by kernel_rfl) (by kernel_rfl) (fun _ _ _ h => h) (Or.inl ⟨by rfl, by intro wz; go_simp⟩) ?_
          try simp only [Act.put, List.getElem_toArray, List.getElem_cons_succ, List.getElem_cons_zero, List.setIfInBounds_toArray, List.set_cons_zero, List.set_cons_succ]
          refine wpAny_take (i := 2) (v := kP kb) rfl (by kernel_rfl) (by kernel_rfl) (by kernel_rfl) (fun _ _ _ h => h) (Or.inl ⟨by rfl, by intro wz; go_simp⟩) ?_
          try simp only [Act.put, List.getElem_toArray, List.getElem_cons_succ, List.getElem_cons_zero, List.setIfInBounds_toArray, List.set_cons_zero, List.set_cons_succ]
          refine wpAny_take (i := 3) (v := .slice (some ⟨gk, ok, none⟩) ks.length capk) rfl (by kernel_rfl) (by kernel_rfl) (by kernel_rfl) (fun _ _ _ h => h) (Or.inl ⟨by rfl, by intro wz; go_simp⟩) ?_
          try simp only [Act.put, List.getElem_toArray, List.getElem_cons_succ, List.getElem_cons_zero, List.setIfInBounds_toArray, List.set_cons_zero, List.set_cons_succ]
          refine wpAny_take (i := 4) (v := .int .i64 (k : Int)) rfl (by kernel_rfl) (by kernel_rfl) (by kernel_rfl) (fun _ _ _ h => h) (Or.inl ⟨by rfl, by intro wz; go_simp⟩) ?_
          try simp only [Act.put, List.getElem_toArray, List.getElem_cons_succ, List.getElem_cons_zero, List.setIfInBounds_toArray, List.set_cons_zero, List.set_cons_succ]
          refine wpAny_take (i := 5) (v := .pointer (some ⟨gk, ok + k, none⟩)) rfl (by kernel_rfl) (by kernel_rfl) (by kernel_rfl) (fun _ _ _ h => h) (Or.inl ⟨by rfl, by intro wz; go_simp⟩) ?_
          try simp only [Act.put, List.getElem_toArray, List.getElem_cons_succ, List.getElem_cons_zero, List.setIfInBounds_toArray, List.set_cons_zero, List.set_cons_succ]
          refine wpAny_take (i := 7) (v := .int .i64 0) rfl (by kernel_rfl) (by kernel_rfl) (by kernel_rfl) (fun _ _ _ h => h) (Or.inl ⟨by rfl, by intro wz; go_simp⟩) ?_
          try simp only [Act.put, List.getElem_toArray, List.getElem_cons_succ, List.getElem_cons_zero, List.setIfInBounds_toArray, List.set_cons_zero, List.set_cons_succ]
          refine wpAny_ready (rs := [6]) (by kernel_rfl) (by simp) ?_
          refine AllReady.cons rfl (fun K hK => ?_) ?_
          · go_simp
            refine hK _ _ ?_
            clear hK K
            try simp only [Act.put, List.getElem_toArray, List.getElem_cons_succ, List.getElem_cons_zero, List.setIfInBounds_toArray, List.set_cons_zero, List.set_cons_succ]
            refine wpAny_ready (rs := [8]) (by kernel_rfl) (by simp) ?_
            refine AllReady.cons rfl (fun K hK => ?_) ?_
            · go_simp
              refine (mark_any x 0 (HR.out.1.below (Below.refl _ _).drew) hXl).mono ?_
              rintro e w3 ⟨rfl, ev', X', K', k1, k2, k3⟩
              have k3' : Stp wr KK w3 K' := (Stp.ofBelow (Below.refl _ wr).drew).trans k3
              have HK3 : Hid (Kern w3 K' kb mb ev' rv [] [] (X ++ X') ∧ (X ++ X').map Prod.fst = marks ks ns (k + 1)) := ⟨k1, by rw [HMS.out]; exact map_app HR.out.2.1 k2⟩
              have hkk := k3'.below HR.out.2.2.1 hbr.size
              have HKB : Hid (∀ i, K' i → W.heap.size ≤ i) := hkk.2
              have HZ3 : Hid (Wnt w3 W.heap.size K' (.slice adz Z.length capz) Z) := HR.out.2.2.2.1.stp k3'
              have hb3 := hbr.trans hkk.1
              obtain ⟨gk3, ok3, capk3, hv3, cx3⟩ := (HK.out _ hb3).at HX.out
              cases hv3
              clear k1 k2 k3 k3' hkk cx cxd
              refine hK _ _ ?_
              clear hK K
              try simp only [Act.put, List.getElem_toArray, List.getElem_cons_succ, List.getElem_cons_zero, List.setIfInBounds_toArray, List.set_cons_zero, List.set_cons_succ]
              refine wpAny_done (by kernel_rfl) ?_ _
              have hmk2 : (4 : Int) ≤ x ∧ x ≤ 6 := (markB_iff x).1 hm
              have HMK : Hid (marked x 0 = [⟨x, 0, [], [], []⟩]) := by unfold Hid marked; rw [hm]; rfl
              have hmA := hmk2.1
              have hmB := hmk2.2
              have HBA : Hid (∀ o, W.heap.size ≤ (w3.alloc o).heap.size ∧ (w3.alloc o).ownsRow W.heap.size 70 5 (.slice adz Z.length capz) Z.length (evCs Z)) := fun o => ⟨Nat.le_trans hb3.size (below_new w3 o).size, owns_below HZ3.out.1 (below_new w3 o)⟩
              clear hmk2
              go_wp2_with (at_builtin; refine wpList_append_own_at _ rfl _ _ 52 rfl W.heap.size 70 i0 _ 5 72 Tryd.underlying52 hi hz0 hz1 hz2 rfl (by decide) _ _ _ rfl (HBA.out _).2 ⟨w3.heap.size, 0, none⟩ 1 1 (evC ⟨x, 0, [], [], []⟩ (.slice none 0 0)) rfl rfl (cells_new w3 _ 70) (evC_one _ _ _) (by have := maxLen_big; omega) (by omega) (HBA.out _).1 ?_; intro v5 w5 hown5 hgrow5 _ hat5)
              have hap := Wnt.app (e := ⟨x, 0, [], [], []⟩) rfl HZ3.out HK3.out.1 hown5 hgrow5 hat5
              have hb5 : Below W.heap.size W w5 := grown_own (HBA.out _).1 (hb3.alloc hb3.size _) (HBA.out _).2 hgrow5
              refine ⟨⟨k + 1, K', ev', X ++ X', Z ++ [(⟨x, 0, [], [], []⟩, .slice none 0 0)], by simp, by omega, ⟨hap.2, HK3.out.2, HKB.out, hap.1, ?_⟩, hb5⟩, by simp [intOf]; omega⟩
              rw [HMS.out, HMK.out, List.map_append, HR.out.2.2.2.2]
              rfl
            exact AllReady.nil
          exact AllReady.nil
    · have hkz : k = ks.length := by omega
      subst hkz
      have hXl : X.length < 4294967296 := by have := HXL.out; omega
      have hZl : Z.length < 4294967296 := by have := HXL.out; omega
      have HLX : Hid (∀ q ∈ X, q.1.l.length < 4294967296) := marks_small HR.out.2.1
      have HLZ : Hid (∀ q ∈ Z, q.1.l.length < 4294967296) := marks_small HR.out.2.2.2.2
      go_wp2_with fail
      refine (trace_any HR.out.1 hXl HLX.out).mono ?_
      rintro e w4 ⟨v4, X4, rfl, o4, e4, b4⟩
      obtain ⟨ad4, cap4, rfl⟩ := owns_slice o4.1
      have l4 : X4.length = X.length := by rw [len_of e4, List.length_map]
      have HX4 : Hid (EvAt w4 (.slice ad4 X4.length cap4) X4) := o4.at
      have HE4 : Hid (X4.map Prod.fst = marks ks ns ks.length) := e4.trans HR.out.2.1
      have HL4 : Hid (∀ q ∈ X4, q.1.l.length < 4294967296) := marks_small HE4.out
      have HK4 : Hid (Kern w4 KK kb mb ev rv [] [] X) := HR.out.1.below b4
      have HZ4 : Hid (EvAt w4 (.slice adz Z.length capz) Z) := HR.out.2.2.2.1.evAt.below b4 (Nat.le_refl _)
      have hb4 := hbr.trans (b4.mono hbr.size)
      have hX4l : X4.length < 4294967296 := by omega
      clear o4 e4 b4 l4
      go_wp2_with fail
      refine (sameEvents_any _ _ X4 Z w4 HX4.out HZ4.out hX4l hZl HL4.out HLZ.out).mono ?_
      rintro e w5 ⟨rfl, b5⟩
      rw [sameEs_true (HE4.out.trans HR.out.2.2.2.2.symm)]
      have HK5 : Hid (Kern w5 KK kb mb ev rv [] [] X) := HK4.out.below b5
      have hb5 := hb4.trans (b5.mono hb4.size)
      clear b5 hb4 HK4 HX4 HZ4
      go_wp2_with fail
      refine (trace_any HK5.out hXl HLX.out).mono ?_
      rintro e w6 ⟨v6, X6, rfl, o6, e6, b6⟩
      obtain ⟨ad6, cap6, rfl⟩ := owns_slice o6.1
      have l6 : X6.length = X.length := by rw [len_of e6, List.length_map]
      have HX6 : Hid (EvAt w6 (.slice ad6 X6.length cap6) X6) := o6.at
      have HE6 : Hid (X6.map Prod.fst = marks ks ns ks.length) := e6.trans HR.out.2.1
      have HL6 : Hid (∀ q ∈ X6, q.1.l.length < 4294967296) := marks_small HE6.out
      have HK6 : Hid (Kern w6 KK kb mb ev rv [] [] X) := HK5.out.below b6
      have hb6 := hb5.trans (b6.mono hb5.size)
      have hX6l : X6.length < 4294967296 := by omega
      clear o6 e6 b6 l6 hb5 HK5
      go_wp2_with fail
      refine (erase_any HX6.out hX6l HL6.out).mono ?_
      rintro e w7 ⟨v7, X7, rfl, o7, e7, b7⟩
      rw [HE6.out, marks_erased] at e7
      have hX7 : X7 = [] := by simpa using e7
      subst hX7
      obtain ⟨ad7, cap7, rfl⟩ := owns_slice o7.1
      have HK7 : Hid (Kern w7 KK kb mb ev rv [] [] X) := HK6.out.below b7
      have hb7 := hb6.trans (b7.mono hb6.size)
      clear o7 e7 b7 hb6 HK6
      go_wp2_with fail
      refine (len_any HK7.out).mono ?_
      rintro e w8 ⟨rfl, hw8⟩
      subst hw8
      have hxz : ((X.length : Int) == (Z.length : Int)) = true := by
        rw [len_of HR.out.2.1, len_of HR.out.2.2.2.2]
        simp
      go_wp2_with fail
      go_ret
      exact ⟨rfl, hb7⟩
end Go.Proofs.YthhghkjgffcpeaaDoor
