/- A word's parts, flat: the law's own function. -/
import Derived.Test.YtnlbjgioleoihaaGreatDoorBp5
import Derived.Deep.RegionHeld3
import Derived.OrdersHeld
namespace Go.Proofs.YtnlbjgioleoihaaGreatDoor
open Go.RowKit
attribute [local go_sem] Oper.semAt_some

/-- A row that holds these parts. -/
def PtOwn2 (n : Nat) (X : List Pt) (B : Nat) (v : Value) (W : World) : Prop := W.ownsRow B 36 5 v n (ptCs X)
theorem PtOwn2.below {n : Nat} {X : List Pt} {B : Nat} {v : Value} {W W' : World} (h : PtOwn2 n X B v W) (hb : Below W.heap.size W W') : W'.ownsRow B 36 5 v n (ptCs X) := owns_turn h (Turn.ofBelow (S := fun _ => False) hb) (fun _ _ e => e)
def ToldC (b j : Nat) (v : Value) (W : World) : Prop := Hid (W.cell? ⟨b, j, none⟩ = some v)
set_option maxRecDepth 100000 in
set_option maxHeartbeats 8000000 in
theorem flat_any {W : World} {B : Nat} {v : Value} {P : List Pt} (k0 p0 : Nat) (h : PtOwn W B v P) (hP : P.length ≤ 100000) (hs : ∀ p ∈ P, p.s.length ≤ 100000) :
    Calls Tryz.prog 8 #[.agg #[.int .i64 (k0 : Nat), .int .i64 (p0 : Nat), v]] W fun e w' => ∃ v', e = .returned v' ∧ PtOwn w' W.heap.size v' (P.foldl fStep []) ∧ Below W.heap.size W w' := by
  obtain ⟨i0, hi0, hz0, hz1, hz2⟩ := info_parts infoP
  obtain ⟨ad, cap, rfl⟩ := h.form
  obtain ⟨W1, hW1⟩ : ∃ W1, W1 = W.alloc (.cells #[.int .i64 (k0 : Nat), .int .i64 (p0 : Nat), .slice ad P.length cap] 31) := ⟨_, rfl⟩
  have hz : W1.heap.size = W.heap.size + 1 := by rw [hW1]; simp
  have HB1 : Hid (Below W.heap.size W W1) := by rw [hW1]; exact below_new _ _
  have h1 : PtOwn W1 B (.slice ad P.length cap) P := h.below HB1.out
  have HC : Hid (∀ w, Below W1.heap.size W1 w → w.cell? ⟨W.heap.size, 2, none⟩ = some (.slice ad P.length cap)) := fun w hb => by
    have hc : Cel W1 W.heap.size 31 #[.int .i64 (k0 : Nat), .int .i64 (p0 : Nat), .slice ad P.length cap] := by rw [hW1]; exact Cel.new _ _ _
    exact (hc.below hb hc.lt).cell 2
  have HG : Hid (∀ w, Below W1.heap.size W1 w → ∀ (i : Nat) (q : Pt), P[i]? = some q → ∃ g, ad = some ⟨g, 0, none⟩ ∧ (∀ j u, (ptC q)[j]? = some u → w.cell? ⟨g, i * 5 + j, none⟩ = some u)) := fun w hb i q hq => by
    have hw := h1.below hb
    obtain ⟨g, c2, e1, r1⟩ := hw.get (fun e => by rw [e] at hq; cases hq)
    obtain ⟨rfl, _, _⟩ := Value.slice.inj e1
    exact ⟨g, rfl, fun j u hu => r1 i q hq j u hu⟩
  have HSZ : Hid (∀ i, (∀ q ∈ (P.take i).foldl fStep [], q.s.length ≤ 100000 * 100000) ∧ ((P.take i).foldl fStep []).length ≤ 100000) := fun i => by
    obtain ⟨z1, z2⟩ := fold_sz (P.take i) [] 0 (by simp) (fun p hp => hs p (List.mem_of_mem_take hp))
    have hl : (P.take i).length ≤ 100000 := by rw [List.length_take]; omega
    refine ⟨fun q hq => by have := z1 q hq; omega, by simp at z2; omega⟩
  have HSP : Hid (∀ p ∈ P, p.s.length ≤ 100000) := hs
  clear h h1 hs
  go_enter Tryz.func8, Tryz.ntmps8
  go_wp2_with fail
  rw [← hW1]
  clear hW1
  go_loopw [3, 4, 5, 6, 7] (fun v3 v4 _ _ _ wr => ∃ (i : Nat) (a3 : Option Addr) (c3 : Nat), v4 = .int .i64 (i : Nat) ∧ v3 = .slice a3 ((P.take i).foldl fStep []).length c3 ∧ i ≤ P.length ∧ Hid (PtOwn wr W1.heap.size (.slice a3 ((P.take i).foldl fStep []).length c3) ((P.take i).foldl fStep [])) ∧ Hid (Below W1.heap.size W1 wr)) (fun _ v4 _ _ _ _ => P.length - (intOf v4).toNat)
  case atStart => exact ⟨0, none, 0, rfl, rfl, Nat.zero_le _, PtOwn.nil _ _, Below.refl _ _⟩
  case round =>
    obtain ⟨i, a3, c3, rfl, rfl, hiP, HO, HB⟩ := hrel
    have ct := HC.out wr HB.out
    by_cases hlt : i < P.length
    · have hlt' : (i : Int) < (P.length : Int) := by omega
      obtain ⟨q, hq⟩ : ∃ q, P[i]? = some q := ⟨P[i]'hlt, List.getElem?_eq_getElem _⟩
      obtain ⟨g, rfl, hc⟩ := HG.out wr HB.out i q hq
      have c0 : wr.cell? ⟨g, i * 5, none⟩ = some (.int .i64 (q.kind : Nat)) := hc 0 _ rfl
      have c1 : wr.cell? ⟨g, i * 5 + 1, none⟩ = some (.int .i64 (q.pos : Nat)) := hc 1 _ rfl
      have c2 : wr.cell? ⟨g, i * 5 + 2, none⟩ = some (.int .i64 (q.n : Nat)) := hc 2 _ rfl
      have c3' : wr.cell? ⟨g, i * 5 + 3, none⟩ = some (.bool q.quoted) := hc 3 _ rfl
      have c4 : wr.cell? ⟨g, i * 5 + 4, none⟩ = some (str q.s) := hc 4 _ rfl
      have HF : Hid ((P.take (i + 1)).foldl fStep [] = fStep ((P.take i).foldl fStep []) q) := by
        unfold Hid
        rw [List.take_succ_eq_append_getElem hlt, List.foldl_append]
        rw [List.getElem?_eq_getElem hlt] at hq
        rw [Option.some.inj hq]
        rfl
      have hqs := HSP.out q (List.mem_of_getElem? hq)
      obtain ⟨hsz, hol⟩ := HSZ.out i
      have HS2 : Hid (∀ q' ∈ (P.take i).foldl fStep [], q'.s.length ≤ 100000 * 100000) := hsz
      have hcs := fStep_cases ((P.take i).foldl fStep []) q
      generalize (P.take i).foldl fStep [] = out at *
      obtain ⟨nxt, HN⟩ : ∃ nxt, Hid ((P.take (i + 1)).foldl fStep [] = nxt) := ⟨_, rfl⟩
      rw [HN.out] at HF
      have hzr : W1.heap.size ≤ wr.heap.size := HB.out.size
      obtain ⟨qk, qp, qn, qg, qs⟩ := q
      simp only at c0 c1 c2 c3' c4 hqs hcs
      clear hc hq hsz HG HSZ HSP
      have HOX : Hid (PtOwn (wr.alloc (.cells #[.int .i64 (qk : Nat), .int .i64 (qp : Nat), .int .i64 (qn : Nat), .bool qg, str qs] 36)) W1.heap.size (.slice a3 out.length c3) out) := HO.out.below (below_new _ _)
      have HBX : Hid (Below W1.heap.size W1 (wr.alloc (.cells #[.int .i64 (qk : Nat), .int .i64 (qp : Nat), .int .i64 (qn : Nat), .bool qg, str qs] 36))) := HB.out.alloc hzr _
      rcases hcs with ⟨k1, k2, k3⟩ | ⟨k1, k2, Y, q, k3, k4, k5⟩ | ⟨k1, k2⟩
      · -- nothing
        have hk : qk = 1 ∨ qk = 2 := by simpa [isTx] using k1
        subst k2
        have HE : Hid ((P.take (i + 1)).foldl fStep [] = out) := by unfold Hid; rw [HN.out, HF.out, k3]
        clear HN HF k1 k3 HO HS2
        rcases hk with rfl | rfl
        all_goals
          go_wp2_with fail
          exact ⟨⟨i + 1, a3, c3, by simp, by rw [HE.out], by omega, (by rw [HE.out]; exact HOX.out), HBX.out⟩, by simp [intOf]; omega⟩
      · -- behind the last one's text
        have hk : qk = 1 ∨ qk = 2 := by simpa [isTx] using k1
        subst k3
        have hl : (Y ++ [q]).length = Y.length + 1 := by simp
        obtain ⟨g1, _, q1, _, hgl, _, _⟩ := HO.out.get2 (by simp)
        obtain ⟨gg, cap', e1, hB, _, hfz, hg⟩ := HOX.out.get2 (by simp)
        obtain ⟨q2, -, -⟩ := Value.slice.inj q1
        obtain ⟨q3, -, q4⟩ := Value.slice.inj e1
        subst q3
        subst q4
        obtain rfl : gg = g1 := by simpa using q2
        have d0 : (wr.alloc (.cells #[.int .i64 (qk : Nat), .int .i64 (qp : Nat), .int .i64 (qn : Nat), .bool qg, str qs] 36)).cell? ⟨gg, Y.length * 5, none⟩ = some (.int .i64 (qk : Nat)) := by
          have := hg Y.length q (by simp) 0 _ rfl
          rw [k4] at this
          exact this
        obtain ⟨ps, hps⟩ : ∃ ps : ByteArray, ps = ⟨q.s.toArray⟩ := ⟨_, rfl⟩
        have d4 := hg Y.length q (by simp) 4 _ rfl
        have hpz : ps.size = q.s.length := by rw [hps]; simp [ByteArray.size]
        have HU : Hid (Value.string (ps ++ ⟨qs.toArray⟩) = str (q.s ++ qs)) := by
          unfold Hid
          rw [hps]
          exact congrArg Value.string (ba_ext' (by simp))
        rw [show str q.s = .string ps by rw [hps]] at d4
        have f4 := hfz (Y.length * 5 + 4)
        have hqz := HS2.out q (by simp)
        have HE : Hid ((P.take (i + 1)).foldl fStep [] = Y ++ [⟨q.kind, q.pos, q.n, q.quoted, q.s ++ qs⟩]) := by unfold Hid; rw [HN.out, HF.out, k5]
        rw [hl] at HOX hol ⊢
        have HBG : Hid (W1.heap.size ≤ gg) := hB
        have hm : (Y.length : Int) + 1 - 1 = (Y.length : Int) := by omega
        have hpos : (0 : Int) ≤ (Y.length : Int) := by omega
        have hlt2 : (Y.length : Int) < (Y.length : Int) + 1 := by omega
        have hb2 : ¬ 9223372036854775807 < ps.size + qs.length := by omega
        have hqe : (qs == []) = false := by rw [beq_eq_false_iff_ne]; exact k2
        clear k2
        clear HN HF k1 k4 k5 HO HS2 hg hfz hps e1 hB q1 q2
        obtain ⟨b1, hk1, hk2⟩ : ∃ b1, ((qk : Int) == 1) = b1 ∧ (b1 = true ∨ ((qk : Int) == 2) = true) := by
          rcases hk with rfl | rfl
          · exact ⟨true, rfl, .inl rfl⟩
          · exact ⟨false, rfl, .inr rfl⟩
        clear hk
        obtain ⟨X, HX⟩ : ∃ X, Hid (X = wr.alloc (.cells #[.int .i64 (qk : Nat), .int .i64 (qp : Nat), .int .i64 (qn : Nat), .bool qg, str qs] 36)) := ⟨_, by unfold Hid; rfl⟩
        have x0 : X.cell? ⟨wr.heap.size, 0, none⟩ = some (.int .i64 (qk : Nat)) := by rw [HX.out]; exact (Cel.new wr _ _).cell 0
        have x4 : X.cell? ⟨wr.heap.size, 4, none⟩ = some (str qs) := by rw [HX.out]; exact (Cel.new wr _ _).cell 4
        rw [← HX.out] at d0 d4 f4 HOX HBX
        cases b1 with
        | true =>
          go_wp2_with fail
          rw [← HX.out]
          clear HX hk2
          go_quiet (fail)
          obtain ⟨X5, HX5⟩ : ∃ X5, Hid (X5 = X.drewN nq) := ⟨_, by unfold Hid; rfl⟩
          have y4 : X5.cell? ⟨wr.heap.size, 4, none⟩ = some (str qs) := by rw [HX5.out]; exact x4
          have e4 : X5.cell? ⟨gg, Y.length * 5 + 4, none⟩ = some (.string ps) := by rw [HX5.out]; exact d4
          have g4 : X5.frozen? ⟨gg, Y.length * 5 + 4, none⟩ = false := by rw [HX5.out]; exact f4
          have HO5 : Hid (PtOwn X5 W1.heap.size (.slice (some ⟨gg, 0, none⟩) (Y.length + 1) c3) (Y ++ [q])) := by rw [HX5.out]; exact HOX.out.below ⟨rfl, rfl, rfl, Nat.le_refl _, fun _ _ => rfl⟩
          have HB5 : Hid (Below W1.heap.size W1 X5) := by rw [HX5.out]; exact HBX.out.trans ⟨rfl, rfl, rfl, Nat.le_refl _, fun _ _ => rfl⟩
          have hS0 : ToldC wr.heap.size 4 (str qs) (World.drew X5) := y4
          rw [← HX5.out]
          clear HX5 HOX HBX x0 x4 d0 d4 f4
          go_wp2_with fail
          refine wp_region_held (S := ToldC wr.heap.size 4 (str qs)) (by kernel_rfl) ?_
          change wpAnyH _ _ _ _ _ _ _ _ (World.drew _)
          refine wpAnyH_take (i := 0) (v := .slice (some ⟨gg, 0, none⟩) (Y.length + 1) c3) rfl (by kernel_rfl) (by kernel_rfl) (by kernel_rfl) (fun _ _ _ h => h) (Yields.yieldsIf (Or.inl ⟨by rfl, by intro wz; go_simp⟩)) hS0 ?_
          try simp only [Act.put, List.getElem_toArray, List.getElem_cons_zero, List.setIfInBounds_toArray, List.set_cons_zero, List.set_cons_succ]
          refine wpAnyH_take (i := 1) (v := .int .i64 (Y.length : Nat)) rfl (by kernel_rfl) (by kernel_rfl) (by kernel_rfl) (fun _ _ _ h => h) (Yields.yieldsIf (Or.inl ⟨by rfl, by intro wz; go_simp⟩)) hS0 ?_
          try simp only [Act.put, List.getElem_toArray, List.getElem_cons_succ, List.getElem_cons_zero, List.setIfInBounds_toArray, List.set_cons_zero, List.set_cons_succ]
          refine wpAnyH_take (i := 2) (v := .slice (some ⟨gg, 0, none⟩) (Y.length + 1) c3) rfl (by kernel_rfl) (by kernel_rfl) (by kernel_rfl) (fun _ _ _ h => h) (Yields.yieldsIf (Or.inl ⟨by rfl, by intro wz; go_simp⟩)) hS0 ?_
          try simp only [Act.put, List.getElem_toArray, List.getElem_cons_succ, List.getElem_cons_zero, List.setIfInBounds_toArray, List.set_cons_zero, List.set_cons_succ]
          refine wpAnyH_take (i := 3) (v := .int .i64 (Y.length : Nat)) rfl (by kernel_rfl) (by kernel_rfl) (by kernel_rfl) (fun _ _ _ h => h) (Yields.yieldsIf (Or.inl ⟨by rfl, by intro wz; go_simp⟩)) hS0 ?_
          try simp only [Act.put, List.getElem_toArray, List.getElem_cons_succ, List.getElem_cons_zero, List.setIfInBounds_toArray, List.set_cons_zero, List.set_cons_succ]
          refine wpAnyH_take (i := 4) (v := .pointer (some ⟨gg, Y.length * 5, none⟩)) rfl (by kernel_rfl) (by kernel_rfl) (by kernel_rfl) (fun _ _ _ h => h) (Yields.yieldsIf (Or.inl ⟨by rfl, by intro wz; go_simp⟩)) hS0 ?_
          try simp only [Act.put, List.getElem_toArray, List.getElem_cons_succ, List.getElem_cons_zero, List.setIfInBounds_toArray, List.set_cons_zero, List.set_cons_succ]
          refine wpAnyH_take (i := 5) (v := .pointer (some ⟨gg, Y.length * 5 + 4, none⟩)) rfl (by kernel_rfl) (by kernel_rfl) (by kernel_rfl) (fun _ _ _ h => h) (Yields.yieldsIf (Or.inl ⟨by rfl, by intro wz; go_simp⟩)) hS0 ?_
          try simp only [Act.put, List.getElem_toArray, List.getElem_cons_succ, List.getElem_cons_zero, List.setIfInBounds_toArray, List.set_cons_zero, List.set_cons_succ]
          refine wpAnyH_take (i := 7) (v := .pointer (some ⟨wr.heap.size, 4, none⟩)) rfl (by kernel_rfl) (by kernel_rfl) (by kernel_rfl) (fun _ _ _ h => h) (Yields.yieldsIf (Or.inl ⟨by rfl, by intro wz; go_simp⟩)) hS0 ?_
          try simp only [Act.put, List.getElem_toArray, List.getElem_cons_succ, List.getElem_cons_zero, List.setIfInBounds_toArray, List.set_cons_zero, List.set_cons_succ]
          refine wpAnyH_take (i := 8) (v := str qs) rfl (by kernel_rfl) (by kernel_rfl) (by kernel_rfl) (fun _ _ _ h => h) (Or.inl ⟨by rfl, fun wz hS => by have s1 := hS.out; go_simp⟩) hS0 ?_
          try simp only [Act.put, List.getElem_toArray, List.getElem_cons_succ, List.getElem_cons_zero, List.setIfInBounds_toArray, List.set_cons_zero, List.set_cons_succ]
          refine wpAnyH_ready (rs := [6]) (by kernel_rfl) (by simp) ?_
          refine AllReadyH.cons rfl (fun K' hK => ?_) AllReadyH.nil
          go_simp
          refine hK.out _ _ hS0 (fun _ => ?_)
          clear hK K'
          try simp only [Act.put, List.getElem_toArray, List.getElem_cons_succ, List.getElem_cons_zero, List.setIfInBounds_toArray, List.set_cons_zero, List.set_cons_succ]
          refine wpAnyH_take (i := 9) (v := Value.string (ps ++ ⟨qs.toArray⟩)) rfl (by kernel_rfl) (by kernel_rfl) (by kernel_rfl) (fun _ _ _ h => h) (Yields.yieldsIf (Or.inl ⟨by rfl, by intro wz; go_simp; omega⟩)) hS0 ?_
          try simp only [Act.put, List.getElem_toArray, List.getElem_cons_succ, List.getElem_cons_zero, List.setIfInBounds_toArray, List.set_cons_zero, List.set_cons_succ]
          refine wpAnyH_take (i := 10) (v := .pointer (some ⟨gg, Y.length * 5, none⟩)) rfl (by kernel_rfl) (by kernel_rfl) (by kernel_rfl) (fun _ _ _ h => h) (Yields.yieldsIf (Or.inl ⟨by rfl, by intro wz; go_simp⟩)) hS0 ?_
          try simp only [Act.put, List.getElem_toArray, List.getElem_cons_succ, List.getElem_cons_zero, List.setIfInBounds_toArray, List.set_cons_zero, List.set_cons_succ]
          refine wpAnyH_take (i := 11) (v := .pointer (some ⟨gg, Y.length * 5 + 4, none⟩)) rfl (by kernel_rfl) (by kernel_rfl) (by kernel_rfl) (fun _ _ _ h => h) (Yields.yieldsIf (Or.inl ⟨by rfl, by intro wz; go_simp⟩)) hS0 ?_
          try simp only [Act.put, List.getElem_toArray, List.getElem_cons_succ, List.getElem_cons_zero, List.setIfInBounds_toArray, List.set_cons_zero, List.set_cons_succ]
          refine wpAnyH_ready (rs := [12]) (by kernel_rfl) (by simp) ?_
          refine AllReadyH.cons rfl (fun K' hK => ?_) AllReadyH.nil
          go_simp
          refine hK.out _ _ ?_ (fun _ => ?_)
          · exact (World.cell?_setCell_other _ _ _ _ (by simp)).trans hS0.out
          clear hK K'
          try simp only [Act.put, List.getElem_toArray, List.getElem_cons_succ, List.getElem_cons_zero, List.setIfInBounds_toArray, List.set_cons_zero, List.set_cons_succ]
          refine wpAnyH_done (by kernel_rfl) ?_ _
          go_wp2_with fail
          have hO := HO5.out.put qs _ HU.out
          have hOd : PtOwn (X5.setCell ⟨gg, Y.length * 5 + 4, none⟩ (.string (ps ++ ⟨qs.toArray⟩))).drew W1.heap.size (.slice (some ⟨gg, 0, none⟩) (Y.length + 1) c3) (Y ++ [⟨q.kind, q.pos, q.n, q.quoted, q.s ++ qs⟩]) := hO.below ⟨rfl, rfl, rfl, Nat.le_refl _, fun _ _ => rfl⟩
          have hBd : Below W1.heap.size W1 (X5.setCell ⟨gg, Y.length * 5 + 4, none⟩ (.string (ps ++ ⟨qs.toArray⟩))).drew := (HB5.out.setCell (p := ⟨gg, Y.length * 5 + 4, none⟩) HBG.out _).trans ⟨rfl, rfl, rfl, Nat.le_refl _, fun _ _ => rfl⟩
          refine ⟨⟨i + 1, some ⟨gg, 0, none⟩, c3, by simp, by rw [HE.out]; simp, by omega, ?_, hBd⟩, by simp [intOf]; omega⟩
          unfold Hid
          rw [HE.out, List.length_append]
          exact hOd
        | false =>
          have hk3 : ((qk : Int) == 2) = true := by simpa using hk2
          go_wp2_with fail
          rw [← HX.out]
          clear HX hk2
          go_quiet (fail)
          obtain ⟨X5, HX5⟩ : ∃ X5, Hid (X5 = X.drewN nq) := ⟨_, by unfold Hid; rfl⟩
          have y4 : X5.cell? ⟨wr.heap.size, 4, none⟩ = some (str qs) := by rw [HX5.out]; exact x4
          have e4 : X5.cell? ⟨gg, Y.length * 5 + 4, none⟩ = some (.string ps) := by rw [HX5.out]; exact d4
          have g4 : X5.frozen? ⟨gg, Y.length * 5 + 4, none⟩ = false := by rw [HX5.out]; exact f4
          have HO5 : Hid (PtOwn X5 W1.heap.size (.slice (some ⟨gg, 0, none⟩) (Y.length + 1) c3) (Y ++ [q])) := by rw [HX5.out]; exact HOX.out.below ⟨rfl, rfl, rfl, Nat.le_refl _, fun _ _ => rfl⟩
          have HB5 : Hid (Below W1.heap.size W1 X5) := by rw [HX5.out]; exact HBX.out.trans ⟨rfl, rfl, rfl, Nat.le_refl _, fun _ _ => rfl⟩
          have hS0 : ToldC wr.heap.size 4 (str qs) (World.drew X5) := y4
          rw [← HX5.out]
          clear HX5 HOX HBX x0 x4 d0 d4 f4
          go_wp2_with fail
          refine wp_region_held (S := ToldC wr.heap.size 4 (str qs)) (by kernel_rfl) ?_
          change wpAnyH _ _ _ _ _ _ _ _ (World.drew _)
          refine wpAnyH_take (i := 0) (v := .slice (some ⟨gg, 0, none⟩) (Y.length + 1) c3) rfl (by kernel_rfl) (by kernel_rfl) (by kernel_rfl) (fun _ _ _ h => h) (Yields.yieldsIf (Or.inl ⟨by rfl, by intro wz; go_simp⟩)) hS0 ?_
          try simp only [Act.put, List.getElem_toArray, List.getElem_cons_zero, List.setIfInBounds_toArray, List.set_cons_zero, List.set_cons_succ]
          refine wpAnyH_take (i := 1) (v := .int .i64 (Y.length : Nat)) rfl (by kernel_rfl) (by kernel_rfl) (by kernel_rfl) (fun _ _ _ h => h) (Yields.yieldsIf (Or.inl ⟨by rfl, by intro wz; go_simp⟩)) hS0 ?_
          try simp only [Act.put, List.getElem_toArray, List.getElem_cons_succ, List.getElem_cons_zero, List.setIfInBounds_toArray, List.set_cons_zero, List.set_cons_succ]
          refine wpAnyH_take (i := 2) (v := .slice (some ⟨gg, 0, none⟩) (Y.length + 1) c3) rfl (by kernel_rfl) (by kernel_rfl) (by kernel_rfl) (fun _ _ _ h => h) (Yields.yieldsIf (Or.inl ⟨by rfl, by intro wz; go_simp⟩)) hS0 ?_
          try simp only [Act.put, List.getElem_toArray, List.getElem_cons_succ, List.getElem_cons_zero, List.setIfInBounds_toArray, List.set_cons_zero, List.set_cons_succ]
          refine wpAnyH_take (i := 3) (v := .int .i64 (Y.length : Nat)) rfl (by kernel_rfl) (by kernel_rfl) (by kernel_rfl) (fun _ _ _ h => h) (Yields.yieldsIf (Or.inl ⟨by rfl, by intro wz; go_simp⟩)) hS0 ?_
          try simp only [Act.put, List.getElem_toArray, List.getElem_cons_succ, List.getElem_cons_zero, List.setIfInBounds_toArray, List.set_cons_zero, List.set_cons_succ]
          refine wpAnyH_take (i := 4) (v := .pointer (some ⟨gg, Y.length * 5, none⟩)) rfl (by kernel_rfl) (by kernel_rfl) (by kernel_rfl) (fun _ _ _ h => h) (Yields.yieldsIf (Or.inl ⟨by rfl, by intro wz; go_simp⟩)) hS0 ?_
          try simp only [Act.put, List.getElem_toArray, List.getElem_cons_succ, List.getElem_cons_zero, List.setIfInBounds_toArray, List.set_cons_zero, List.set_cons_succ]
          refine wpAnyH_take (i := 5) (v := .pointer (some ⟨gg, Y.length * 5 + 4, none⟩)) rfl (by kernel_rfl) (by kernel_rfl) (by kernel_rfl) (fun _ _ _ h => h) (Yields.yieldsIf (Or.inl ⟨by rfl, by intro wz; go_simp⟩)) hS0 ?_
          try simp only [Act.put, List.getElem_toArray, List.getElem_cons_succ, List.getElem_cons_zero, List.setIfInBounds_toArray, List.set_cons_zero, List.set_cons_succ]
          refine wpAnyH_take (i := 7) (v := .pointer (some ⟨wr.heap.size, 4, none⟩)) rfl (by kernel_rfl) (by kernel_rfl) (by kernel_rfl) (fun _ _ _ h => h) (Yields.yieldsIf (Or.inl ⟨by rfl, by intro wz; go_simp⟩)) hS0 ?_
          try simp only [Act.put, List.getElem_toArray, List.getElem_cons_succ, List.getElem_cons_zero, List.setIfInBounds_toArray, List.set_cons_zero, List.set_cons_succ]
          refine wpAnyH_take (i := 8) (v := str qs) rfl (by kernel_rfl) (by kernel_rfl) (by kernel_rfl) (fun _ _ _ h => h) (Or.inl ⟨by rfl, fun wz hS => by have s1 := hS.out; go_simp⟩) hS0 ?_
          try simp only [Act.put, List.getElem_toArray, List.getElem_cons_succ, List.getElem_cons_zero, List.setIfInBounds_toArray, List.set_cons_zero, List.set_cons_succ]
          refine wpAnyH_ready (rs := [6]) (by kernel_rfl) (by simp) ?_
          refine AllReadyH.cons rfl (fun K' hK => ?_) AllReadyH.nil
          go_simp
          refine hK.out _ _ hS0 (fun _ => ?_)
          clear hK K'
          try simp only [Act.put, List.getElem_toArray, List.getElem_cons_succ, List.getElem_cons_zero, List.setIfInBounds_toArray, List.set_cons_zero, List.set_cons_succ]
          refine wpAnyH_take (i := 9) (v := Value.string (ps ++ ⟨qs.toArray⟩)) rfl (by kernel_rfl) (by kernel_rfl) (by kernel_rfl) (fun _ _ _ h => h) (Yields.yieldsIf (Or.inl ⟨by rfl, by intro wz; go_simp; omega⟩)) hS0 ?_
          try simp only [Act.put, List.getElem_toArray, List.getElem_cons_succ, List.getElem_cons_zero, List.setIfInBounds_toArray, List.set_cons_zero, List.set_cons_succ]
          refine wpAnyH_take (i := 10) (v := .pointer (some ⟨gg, Y.length * 5, none⟩)) rfl (by kernel_rfl) (by kernel_rfl) (by kernel_rfl) (fun _ _ _ h => h) (Yields.yieldsIf (Or.inl ⟨by rfl, by intro wz; go_simp⟩)) hS0 ?_
          try simp only [Act.put, List.getElem_toArray, List.getElem_cons_succ, List.getElem_cons_zero, List.setIfInBounds_toArray, List.set_cons_zero, List.set_cons_succ]
          refine wpAnyH_take (i := 11) (v := .pointer (some ⟨gg, Y.length * 5 + 4, none⟩)) rfl (by kernel_rfl) (by kernel_rfl) (by kernel_rfl) (fun _ _ _ h => h) (Yields.yieldsIf (Or.inl ⟨by rfl, by intro wz; go_simp⟩)) hS0 ?_
          try simp only [Act.put, List.getElem_toArray, List.getElem_cons_succ, List.getElem_cons_zero, List.setIfInBounds_toArray, List.set_cons_zero, List.set_cons_succ]
          refine wpAnyH_ready (rs := [12]) (by kernel_rfl) (by simp) ?_
          refine AllReadyH.cons rfl (fun K' hK => ?_) AllReadyH.nil
          go_simp
          refine hK.out _ _ ?_ (fun _ => ?_)
          · exact (World.cell?_setCell_other _ _ _ _ (by simp)).trans hS0.out
          clear hK K'
          try simp only [Act.put, List.getElem_toArray, List.getElem_cons_succ, List.getElem_cons_zero, List.setIfInBounds_toArray, List.set_cons_zero, List.set_cons_succ]
          refine wpAnyH_done (by kernel_rfl) ?_ _
          go_wp2_with fail
          have hO := HO5.out.put qs _ HU.out
          have hOd : PtOwn (X5.setCell ⟨gg, Y.length * 5 + 4, none⟩ (.string (ps ++ ⟨qs.toArray⟩))).drew W1.heap.size (.slice (some ⟨gg, 0, none⟩) (Y.length + 1) c3) (Y ++ [⟨q.kind, q.pos, q.n, q.quoted, q.s ++ qs⟩]) := hO.below ⟨rfl, rfl, rfl, Nat.le_refl _, fun _ _ => rfl⟩
          have hBd : Below W1.heap.size W1 (X5.setCell ⟨gg, Y.length * 5 + 4, none⟩ (.string (ps ++ ⟨qs.toArray⟩))).drew := (HB5.out.setCell (p := ⟨gg, Y.length * 5 + 4, none⟩) HBG.out _).trans ⟨rfl, rfl, rfl, Nat.le_refl _, fun _ _ => rfl⟩
          refine ⟨⟨i + 1, some ⟨gg, 0, none⟩, c3, by simp, by rw [HE.out]; simp, by omega, ?_, hBd⟩, by simp [intOf]; omega⟩
          unfold Hid
          rw [HE.out, List.length_append]
          exact hOd
      · -- behind it
        have HE : Hid ((P.take (i + 1)).foldl fStep [] = out ++ [⟨qk, qp, qn, qg, qs⟩]) := by unfold Hid; rw [HN.out, HF.out, k1]
        obtain ⟨n, hn⟩ : ∃ n, out.length = n := ⟨_, rfl⟩
        rw [hn] at HOX hol ⊢
        have HON : Hid (PtOwn2 n out W1.heap.size (.slice a3 n c3) (wr.alloc (.cells #[.int .i64 (qk : Nat), .int .i64 (qp : Nat), .int .i64 (qn : Nat), .bool qg, str qs] 36))) := by
          have := HOX.out
          unfold PtOwn at this
          rw [hn] at this
          exact this
        obtain ⟨X, HX⟩ : ∃ X, Hid (X = wr.alloc (.cells #[.int .i64 (qk : Nat), .int .i64 (qp : Nat), .int .i64 (qn : Nat), .bool qg, str qs] 36)) := ⟨_, by unfold Hid; rfl⟩
        have x0 : X.cell? ⟨wr.heap.size, 0, none⟩ = some (.int .i64 (qk : Nat)) := by rw [HX.out]; exact (Cel.new wr _ _).cell 0
        have x1 : X.cell? ⟨wr.heap.size, 1, none⟩ = some (.int .i64 (qp : Nat)) := by rw [HX.out]; exact (Cel.new wr _ _).cell 1
        have x2 : X.cell? ⟨wr.heap.size, 2, none⟩ = some (.int .i64 (qn : Nat)) := by rw [HX.out]; exact (Cel.new wr _ _).cell 2
        have x3 : X.cell? ⟨wr.heap.size, 3, none⟩ = some (.bool qg) := by rw [HX.out]; exact (Cel.new wr _ _).cell 3
        have x4 : X.cell? ⟨wr.heap.size, 4, none⟩ = some (str qs) := by rw [HX.out]; exact (Cel.new wr _ _).cell 4
        have hcc : (((qk : Int) == 1) = false ∧ ((qk : Int) == 2) = false) ∨ ((qs == []) = false ∧ (((qk : Int) == 1) = true ∨ (((qk : Int) == 1) = false ∧ ((qk : Int) == 2) = true)) ∧ (n = 0 ∨ ∃ g' m k', n = m + 1 ∧ a3 = some ⟨g', 0, none⟩ ∧ (wr.alloc (.cells #[.int .i64 (qk : Nat), .int .i64 (qp : Nat), .int .i64 (qn : Nat), .bool qg, str qs] 36)).cell? ⟨g', m * 5, none⟩ = some (.int .i64 ((k' : Nat) : Int)) ∧ ((k' : Int) == (qk : Int)) = false)) := by
          rcases k2 with k2 | ⟨k2, k3, k4⟩
          · left
            have : ¬ qk = 1 ∧ ¬ qk = 2 := by simpa [isTx] using k2
            exact ⟨beq_eq_false_iff_ne.2 (by omega), beq_eq_false_iff_ne.2 (by omega)⟩
          · right
            refine ⟨beq_eq_false_iff_ne.2 k3, ?_, ?_⟩
            · have hk : qk = 1 ∨ qk = 2 := by simpa [isTx] using k2
              rcases hk with rfl | rfl
              · exact .inl rfl
              · exact .inr ⟨rfl, rfl⟩
            · rcases k4 with rfl | ⟨Y, q, rfl, k5⟩
              · exact .inl hn.symm
              · obtain ⟨g', cap', e1, _, _, _, hg⟩ := (show PtOwn _ _ (.slice a3 (Y ++ [q]).length c3) _ by rw [hn]; exact HOX.out).get2 (by simp)
                obtain ⟨q3, -, -⟩ := Value.slice.inj e1
                exact .inr ⟨g', Y.length, q.kind, by rw [← hn]; simp, q3, hg Y.length q (by simp) 0 _ rfl, beq_eq_false_iff_ne.2 (by omega)⟩
        have HPO : Hid (∀ (v6 : Value) (w6 : World), w6.ownsRow W1.heap.size 36 5 v6 (n + 1) (ptCs out ++ ptC ⟨qk, qp, qn, qg, qs⟩) → PtOwn w6 W1.heap.size v6 (out ++ [⟨qk, qp, qn, qg, qs⟩])) := fun v6 w6 ho => by
          unfold PtOwn
          rw [ptCs_append, ptCs_one, List.length_append, hn]
          exact ho
        have HLN : Hid ((out ++ [(⟨qk, qp, qn, qg, qs⟩ : Pt)]).length = n + 1) := by unfold Hid; rw [List.length_append, hn]; rfl
        clear HN HF k1 k2 HO HS2 HOX hn
        rw [← HX.out] at HON HBX
        rcases hcc with ⟨r1, r2⟩ | ⟨r0, r1, r2⟩
        · go_wp2_with fail
          rw [← HX.out]
          clear HX
          go_quiet (fail)
          obtain ⟨X5, HX5⟩ : ∃ X5, Hid (X5 = X.drewN nq) := ⟨_, by unfold Hid; rfl⟩
          have y0 : X5.cell? ⟨wr.heap.size, 0, none⟩ = some (.int .i64 (qk : Nat)) := by rw [HX5.out]; exact x0
          have y1 : X5.cell? ⟨wr.heap.size, 1, none⟩ = some (.int .i64 (qp : Nat)) := by rw [HX5.out]; exact x1
          have y2 : X5.cell? ⟨wr.heap.size, 2, none⟩ = some (.int .i64 (qn : Nat)) := by rw [HX5.out]; exact x2
          have y3 : X5.cell? ⟨wr.heap.size, 3, none⟩ = some (.bool qg) := by rw [HX5.out]; exact x3
          have y4 : X5.cell? ⟨wr.heap.size, 4, none⟩ = some (str qs) := by rw [HX5.out]; exact x4
          have HO5 : Hid (X5.ownsRow W1.heap.size 36 5 (.slice a3 n c3) n (ptCs out)) := by rw [HX5.out]; exact (HON.out.below ⟨rfl, rfl, rfl, Nat.le_refl _, fun _ _ => rfl⟩)
          have HB5 : Hid (Below W1.heap.size W1 X5) := by rw [HX5.out]; exact HBX.out.trans ⟨rfl, rfl, rfl, Nat.le_refl _, fun _ _ => rfl⟩
          rw [← HX5.out]
          clear HX5 HON HBX x0 x1 x2 x3 x4
          go_wp2_with (at_builtin; refine wpList_append_own_at _ rfl _ _ 29 rfl W1.heap.size 36 i0 _ 5 48 Tryz.underlying29 hi0 hz0 hz1 hz2 rfl (by decide) _ _ _ rfl (World.ownsRow.alloc HO5.out _) ⟨X5.heap.size, 0, none⟩ 1 1 (ptC (⟨qk, qp, qn, qg, qs⟩ : Pt)) rfl rfl (cells_new _ _ _) (by simp [Value.oneCell']) (by have := maxLen_big; omega) (by omega) (by have := HB5.out.size; simp; omega) ?_; intro v6 w6 hown hgrow _ _)
          have hb6 : Below W1.heap.size W1 w6 := HB5.out.trans (grown_own (by have := HB5.out.size; simp; omega) ((Below.refl _ X5).alloc HB5.out.size _) (World.ownsRow.alloc HO5.out _) hgrow)
          have ho6 := HPO.out v6 w6 hown
          obtain ⟨a6, c6, rfl⟩ := owns_slice hown
          have HO6 : Hid (PtOwn w6 W1.heap.size (.slice a6 _ c6) (out ++ [⟨qk, qp, qn, qg, qs⟩])) := ho6
          have HB6 : Hid (Below W1.heap.size W1 w6) := hb6
          clear hown hgrow hb6 ho6
          go_wp2_with fail
          refine ⟨⟨i + 1, a6, c6, by simp, by rw [HE.out, HLN.out], by omega, ?_, HB6.out⟩, by simp [intOf]; omega⟩
          unfold Hid
          rw [HE.out, HLN.out]
          exact HO6.out
        · rcases r2 with rfl | ⟨g', m, k', rfl, rfl, d0, r3⟩
          · rcases r1 with r1 | ⟨r1, r4⟩
            · go_wp2_with fail
              rw [← HX.out]
              clear HX
              go_quiet (fail)
              obtain ⟨X5, HX5⟩ : ∃ X5, Hid (X5 = X.drewN nq) := ⟨_, by unfold Hid; rfl⟩
              have y0 : X5.cell? ⟨wr.heap.size, 0, none⟩ = some (.int .i64 (qk : Nat)) := by rw [HX5.out]; exact x0
              have y1 : X5.cell? ⟨wr.heap.size, 1, none⟩ = some (.int .i64 (qp : Nat)) := by rw [HX5.out]; exact x1
              have y2 : X5.cell? ⟨wr.heap.size, 2, none⟩ = some (.int .i64 (qn : Nat)) := by rw [HX5.out]; exact x2
              have y3 : X5.cell? ⟨wr.heap.size, 3, none⟩ = some (.bool qg) := by rw [HX5.out]; exact x3
              have y4 : X5.cell? ⟨wr.heap.size, 4, none⟩ = some (str qs) := by rw [HX5.out]; exact x4
              have HO5 : Hid (X5.ownsRow W1.heap.size 36 5 (.slice a3 0 c3) 0 (ptCs out)) := by rw [HX5.out]; exact (HON.out.below ⟨rfl, rfl, rfl, Nat.le_refl _, fun _ _ => rfl⟩)
              have HB5 : Hid (Below W1.heap.size W1 X5) := by rw [HX5.out]; exact HBX.out.trans ⟨rfl, rfl, rfl, Nat.le_refl _, fun _ _ => rfl⟩
              rw [← HX5.out]
              clear HX5 HON HBX x0 x1 x2 x3 x4
              go_wp2_with (at_builtin; refine wpList_append_own_at _ rfl _ _ 29 rfl W1.heap.size 36 i0 _ 5 48 Tryz.underlying29 hi0 hz0 hz1 hz2 rfl (by decide) _ _ _ rfl (World.ownsRow.alloc HO5.out _) ⟨X5.heap.size, 0, none⟩ 1 1 (ptC (⟨qk, qp, qn, qg, qs⟩ : Pt)) rfl rfl (cells_new _ _ _) (by simp [Value.oneCell']) (by have := maxLen_big; omega) (by omega) (by have := HB5.out.size; simp; omega) ?_; intro v6 w6 hown hgrow _ _)
              have hb6 : Below W1.heap.size W1 w6 := HB5.out.trans (grown_own (by have := HB5.out.size; simp; omega) ((Below.refl _ X5).alloc HB5.out.size _) (World.ownsRow.alloc HO5.out _) hgrow)
              have ho6 := HPO.out v6 w6 hown
              obtain ⟨a6, c6, rfl⟩ := owns_slice hown
              have HO6 : Hid (PtOwn w6 W1.heap.size (.slice a6 _ c6) (out ++ [⟨qk, qp, qn, qg, qs⟩])) := ho6
              have HB6 : Hid (Below W1.heap.size W1 w6) := hb6
              clear hown hgrow hb6 ho6
              go_wp2_with fail
              refine ⟨⟨i + 1, a6, c6, by simp, by rw [HE.out, HLN.out], by omega, ?_, HB6.out⟩, by simp [intOf]; omega⟩
              unfold Hid
              rw [HE.out, HLN.out]
              exact HO6.out
            · go_wp2_with fail
              rw [← HX.out]
              clear HX
              go_quiet (fail)
              obtain ⟨X5, HX5⟩ : ∃ X5, Hid (X5 = X.drewN nq) := ⟨_, by unfold Hid; rfl⟩
              have y0 : X5.cell? ⟨wr.heap.size, 0, none⟩ = some (.int .i64 (qk : Nat)) := by rw [HX5.out]; exact x0
              have y1 : X5.cell? ⟨wr.heap.size, 1, none⟩ = some (.int .i64 (qp : Nat)) := by rw [HX5.out]; exact x1
              have y2 : X5.cell? ⟨wr.heap.size, 2, none⟩ = some (.int .i64 (qn : Nat)) := by rw [HX5.out]; exact x2
              have y3 : X5.cell? ⟨wr.heap.size, 3, none⟩ = some (.bool qg) := by rw [HX5.out]; exact x3
              have y4 : X5.cell? ⟨wr.heap.size, 4, none⟩ = some (str qs) := by rw [HX5.out]; exact x4
              have HO5 : Hid (X5.ownsRow W1.heap.size 36 5 (.slice a3 0 c3) 0 (ptCs out)) := by rw [HX5.out]; exact (HON.out.below ⟨rfl, rfl, rfl, Nat.le_refl _, fun _ _ => rfl⟩)
              have HB5 : Hid (Below W1.heap.size W1 X5) := by rw [HX5.out]; exact HBX.out.trans ⟨rfl, rfl, rfl, Nat.le_refl _, fun _ _ => rfl⟩
              rw [← HX5.out]
              clear HX5 HON HBX x0 x1 x2 x3 x4
              go_wp2_with (at_builtin; refine wpList_append_own_at _ rfl _ _ 29 rfl W1.heap.size 36 i0 _ 5 48 Tryz.underlying29 hi0 hz0 hz1 hz2 rfl (by decide) _ _ _ rfl (World.ownsRow.alloc HO5.out _) ⟨X5.heap.size, 0, none⟩ 1 1 (ptC (⟨qk, qp, qn, qg, qs⟩ : Pt)) rfl rfl (cells_new _ _ _) (by simp [Value.oneCell']) (by have := maxLen_big; omega) (by omega) (by have := HB5.out.size; simp; omega) ?_; intro v6 w6 hown hgrow _ _)
              have hb6 : Below W1.heap.size W1 w6 := HB5.out.trans (grown_own (by have := HB5.out.size; simp; omega) ((Below.refl _ X5).alloc HB5.out.size _) (World.ownsRow.alloc HO5.out _) hgrow)
              have ho6 := HPO.out v6 w6 hown
              obtain ⟨a6, c6, rfl⟩ := owns_slice hown
              have HO6 : Hid (PtOwn w6 W1.heap.size (.slice a6 _ c6) (out ++ [⟨qk, qp, qn, qg, qs⟩])) := ho6
              have HB6 : Hid (Below W1.heap.size W1 w6) := hb6
              clear hown hgrow hb6 ho6
              go_wp2_with fail
              refine ⟨⟨i + 1, a6, c6, by simp, by rw [HE.out, HLN.out], by omega, ?_, HB6.out⟩, by simp [intOf]; omega⟩
              unfold Hid
              rw [HE.out, HLN.out]
              exact HO6.out
          · rw [← HX.out] at d0
            have hm : (m : Int) + 1 - 1 = (m : Int) := by omega
            have hpos : (0 : Int) ≤ (m : Int) := by omega
            have hlt2 : (m : Int) < (m : Int) + 1 := by omega
            rcases r1 with r1 | ⟨r1, r4⟩
            · go_wp2_with fail
              rw [← HX.out]
              clear HX
              go_quiet (fail)
              obtain ⟨X5, HX5⟩ : ∃ X5, Hid (X5 = X.drewN nq) := ⟨_, by unfold Hid; rfl⟩
              have y0 : X5.cell? ⟨wr.heap.size, 0, none⟩ = some (.int .i64 (qk : Nat)) := by rw [HX5.out]; exact x0
              have y1 : X5.cell? ⟨wr.heap.size, 1, none⟩ = some (.int .i64 (qp : Nat)) := by rw [HX5.out]; exact x1
              have y2 : X5.cell? ⟨wr.heap.size, 2, none⟩ = some (.int .i64 (qn : Nat)) := by rw [HX5.out]; exact x2
              have y3 : X5.cell? ⟨wr.heap.size, 3, none⟩ = some (.bool qg) := by rw [HX5.out]; exact x3
              have y4 : X5.cell? ⟨wr.heap.size, 4, none⟩ = some (str qs) := by rw [HX5.out]; exact x4
              have HO5 : Hid (X5.ownsRow W1.heap.size 36 5 (.slice (some ⟨g', 0, none⟩) (m + 1) c3) (m + 1) (ptCs out)) := by rw [HX5.out]; exact (HON.out.below ⟨rfl, rfl, rfl, Nat.le_refl _, fun _ _ => rfl⟩)
              have HB5 : Hid (Below W1.heap.size W1 X5) := by rw [HX5.out]; exact HBX.out.trans ⟨rfl, rfl, rfl, Nat.le_refl _, fun _ _ => rfl⟩
              rw [← HX5.out]
              clear HX5 HON HBX x0 x1 x2 x3 x4
              go_wp2_with (at_builtin; refine wpList_append_own_at _ rfl _ _ 29 rfl W1.heap.size 36 i0 _ 5 48 Tryz.underlying29 hi0 hz0 hz1 hz2 rfl (by decide) _ _ _ rfl (World.ownsRow.alloc HO5.out _) ⟨X5.heap.size, 0, none⟩ 1 1 (ptC (⟨qk, qp, qn, qg, qs⟩ : Pt)) rfl rfl (cells_new _ _ _) (by simp [Value.oneCell']) (by have := maxLen_big; omega) (by omega) (by have := HB5.out.size; simp; omega) ?_; intro v6 w6 hown hgrow _ _)
              have hb6 : Below W1.heap.size W1 w6 := HB5.out.trans (grown_own (by have := HB5.out.size; simp; omega) ((Below.refl _ X5).alloc HB5.out.size _) (World.ownsRow.alloc HO5.out _) hgrow)
              have ho6 := HPO.out v6 w6 hown
              obtain ⟨a6, c6, rfl⟩ := owns_slice hown
              have HO6 : Hid (PtOwn w6 W1.heap.size (.slice a6 _ c6) (out ++ [⟨qk, qp, qn, qg, qs⟩])) := ho6
              have HB6 : Hid (Below W1.heap.size W1 w6) := hb6
              clear hown hgrow hb6 ho6
              go_wp2_with fail
              refine ⟨⟨i + 1, a6, c6, by simp, by rw [HE.out, HLN.out], by omega, ?_, HB6.out⟩, by simp [intOf]; omega⟩
              unfold Hid
              rw [HE.out, HLN.out]
              exact HO6.out
            · go_wp2_with fail
              rw [← HX.out]
              clear HX
              go_quiet (fail)
              obtain ⟨X5, HX5⟩ : ∃ X5, Hid (X5 = X.drewN nq) := ⟨_, by unfold Hid; rfl⟩
              have y0 : X5.cell? ⟨wr.heap.size, 0, none⟩ = some (.int .i64 (qk : Nat)) := by rw [HX5.out]; exact x0
              have y1 : X5.cell? ⟨wr.heap.size, 1, none⟩ = some (.int .i64 (qp : Nat)) := by rw [HX5.out]; exact x1
              have y2 : X5.cell? ⟨wr.heap.size, 2, none⟩ = some (.int .i64 (qn : Nat)) := by rw [HX5.out]; exact x2
              have y3 : X5.cell? ⟨wr.heap.size, 3, none⟩ = some (.bool qg) := by rw [HX5.out]; exact x3
              have y4 : X5.cell? ⟨wr.heap.size, 4, none⟩ = some (str qs) := by rw [HX5.out]; exact x4
              have HO5 : Hid (X5.ownsRow W1.heap.size 36 5 (.slice (some ⟨g', 0, none⟩) (m + 1) c3) (m + 1) (ptCs out)) := by rw [HX5.out]; exact (HON.out.below ⟨rfl, rfl, rfl, Nat.le_refl _, fun _ _ => rfl⟩)
              have HB5 : Hid (Below W1.heap.size W1 X5) := by rw [HX5.out]; exact HBX.out.trans ⟨rfl, rfl, rfl, Nat.le_refl _, fun _ _ => rfl⟩
              rw [← HX5.out]
              clear HX5 HON HBX x0 x1 x2 x3 x4
              go_wp2_with (at_builtin; refine wpList_append_own_at _ rfl _ _ 29 rfl W1.heap.size 36 i0 _ 5 48 Tryz.underlying29 hi0 hz0 hz1 hz2 rfl (by decide) _ _ _ rfl (World.ownsRow.alloc HO5.out _) ⟨X5.heap.size, 0, none⟩ 1 1 (ptC (⟨qk, qp, qn, qg, qs⟩ : Pt)) rfl rfl (cells_new _ _ _) (by simp [Value.oneCell']) (by have := maxLen_big; omega) (by omega) (by have := HB5.out.size; simp; omega) ?_; intro v6 w6 hown hgrow _ _)
              have hb6 : Below W1.heap.size W1 w6 := HB5.out.trans (grown_own (by have := HB5.out.size; simp; omega) ((Below.refl _ X5).alloc HB5.out.size _) (World.ownsRow.alloc HO5.out _) hgrow)
              have ho6 := HPO.out v6 w6 hown
              obtain ⟨a6, c6, rfl⟩ := owns_slice hown
              have HO6 : Hid (PtOwn w6 W1.heap.size (.slice a6 _ c6) (out ++ [⟨qk, qp, qn, qg, qs⟩])) := ho6
              have HB6 : Hid (Below W1.heap.size W1 w6) := hb6
              clear hown hgrow hb6 ho6
              go_wp2_with fail
              refine ⟨⟨i + 1, a6, c6, by simp, by rw [HE.out, HLN.out], by omega, ?_, HB6.out⟩, by simp [intOf]; omega⟩
              unfold Hid
              rw [HE.out, HLN.out]
              exact HO6.out
    · have hlt' : ¬ (i : Int) < (P.length : Int) := by omega
      have HE : Hid ((P.take i).foldl fStep [] = P.foldl fStep []) := by
        unfold Hid
        rw [List.take_of_length_le (by omega)]
      go_wp2_with fail
      go_ret
      refine ⟨_, rfl, ?_, HB1.out.trans (HB.out.mono (by omega))⟩
      have := HO.out.lower (B' := W.heap.size) (by omega)
      rw [HE.out] at this ⊢
      exact this
end Go.Proofs.YtnlbjgioleoihaaGreatDoor
