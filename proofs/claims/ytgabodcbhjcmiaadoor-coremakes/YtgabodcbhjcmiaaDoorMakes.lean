/- The statement on nodes put together, walked. -/
import Derived.Test.YtgabodcbhjcmiaaDoorOwn5
import Derived.Test.YtgabodcbhjcmiaaDoorOpenKd
import Derived.Test.YtgabodcbhjcmiaaDoorRefCheck
import Derived.Test.YtgabodcbhjcmiaaDoorLight
import Derived.Test.YtgabodcbhjcmiaaDoorSame
import Derived.Great.BuildSlice
import Derived.Deep.Cut
import Derived.Deep.RegionHeld
namespace Go.Proofs.YtgabodcbhjcmiaaDoor
open Go.RowKit
attribute [local go_sem] Oper.semAt_some

def ToldC (g o : Nat) (v : Value) (W : World) : Prop := W.cell? ⟨g, o, none⟩ = some v
def ToldD (go oo gk ok1 i : Nat) (ov pv : Value) (gh L : Nat) (W : World) : Prop := W.cell? ⟨go, oo + i, none⟩ = some ov ∧ W.cell? ⟨gk, ok1, none⟩ = some pv ∧ W.cell? ⟨gh, L * 5, none⟩ = some (.int .i64 (-7))
theorem step_build {o : Oper} {a : Act} {w : World} {K : Act → World → Prop} {Q : Exit → Act → World → Prop} (x : Operand) (ho : o.op = Op.buildSlice 25 1 #[(0, x)]) (c0 c1 c2 c3 : Int) (s : ByteArray) (hx : a.eval x = .agg #[.int .i64 c0, .int .i64 c1, .int .i64 c2, .int .i64 c3, .string s])
    (h : K (a.put o.dst (.slice (some ⟨w.heap.size, 0, none⟩) 1 1)) (w.alloc (.cells #[.int .i64 c0, .int .i64 c1, .int .i64 c2, .int .i64 c3, .string s] 28))) : Oper.wp Tryd.prog o a w K Q := by
  obtain ⟨i8, hi8, hy0, hy1, hy2⟩ := info_parts info28
  refine wp_buildSlice 25 28 1 #[(0, x)] ho _ i8 _ Tryd.underlying25 hi8 hy0 (by rw [hy1]; decide) (by rw [hy1]; decide) ?_ h
  rw [hy1]
  simp only [List.map_toArray, List.map_cons, List.map_nil, hx]
  first | kernel_rfl | simp [Instr.fill, Value.cells, go_sem]
theorem run_code (c : Int) (ad : Option Addr) (nn cp : Nat) (w : World) : (Instr.field 33 (.agg #[.int .i64 c, .slice ad nn cp]) 0).run Tryd.prog w = .ok (.int .i64 c) w := by kernel_rfl
theorem kid_mem (K : List (Value × List Nd)) (x : Nd) (h : x ∈ kidL K) : ∃ q ∈ K, x ∈ q.2 := by
  obtain ⟨Y, hY, hx⟩ := List.mem_flatten.1 h
  obtain ⟨q, hq, rfl⟩ := List.mem_map.1 hY
  exact ⟨q, hq, hx⟩
theorem flat_le2 : ∀ (K : List (Value × List Nd)) (pv : Value) (X : List Nd) {i : Nat}, K[i]? = some (pv, X) → X.length ≤ (kidL K).length
  | [], _, _, i, h => by simp at h
  | q :: K, pv, X, 0, h => by
    simp at h
    subst h
    simp [kidL]
  | q :: K, pv, X, i + 1, h => by
    have := flat_le2 K pv X (i := i) (by simpa using h)
    have e : kidL (q :: K) = q.2 ++ kidL K := by simp [kidL]
    rw [e, List.length_append]
    omega
theorem seqL_len (K : List (Value × List Nd)) : (seqL (K.map Prod.snd)).length ≤ (kidL K).length + 1 := by
  match K with
  | [] => simp [seqL]
  | [q] => simp [seqL, kidL]
  | q :: r :: K => simp [seqL, newN, kidL]
theorem take_flat (K : List (Value × List Nd)) (i : Nat) : (kidL (K.take i)) = ((K.map Prod.snd).take i).flatten := by
  unfold kidL
  rw [List.map_take]
theorem few_flat : ∀ (K : List (Value × List Nd)), (∀ q ∈ K, q.2.length ≤ 200) → (kidL K).length ≤ K.length * 200
  | [], _ => by simp [kidL]
  | q :: K, h => by
    have h1 := few_flat K (fun p hp => h p (by simp [hp]))
    have h2 := h q (by simp)
    have e : kidL (q :: K) = q.2 ++ kidL K := by simp [kidL]
    rw [e, List.length_append, List.length_cons, Nat.succ_mul]
    omega

set_option maxRecDepth 100000 in
set_option maxHeartbeats 16000000 in
theorem makes_any (kind n : Int) (s : Txt) (v : Value) (K : List (Value × List Nd)) (W : World) (ea : Nat → Addr) (hE : Ers W ea) (hK : KdAt W v K) (hin : ∀ q ∈ K, (∀ x ∈ q.2, NdIn x) ∧ q.2.length ≤ 140737488351232) (hl : K.length ≤ 140737488351232) (hk : I64 kind) (hn : I64 n) (hsl : s.length < 4611686018427387904) :
    Calls Tryd.prog 3 #[.int .i64 kind, .int .i64 n, str s, v] W fun e w' => e = .returned (.bool true) ∧ Below W.heap.size W w' := by
  obtain ⟨i0, hi0, hz0, hz1, hz2⟩ := info_parts info25
  obtain ⟨i8, hi8, hy0, hy1, hy2⟩ := info_parts info28
  have HE : Hid (∀ W', Below W.heap.size W W' → Ers W' ea) := fun W' hb => hE.below hb
  have HKW : Hid (∀ W', Below W.heap.size W W' → KdAt W' v K) := fun W' hb => hK.below hb (Nat.le_refl _)
  have HIN : Hid (∀ q ∈ K, (∀ x ∈ q.2, NdIn x) ∧ q.2.length ≤ 140737488351232) := hin
  have HI : Hid (I64 kind ∧ I64 n) := ⟨hk, hn⟩
  obtain ⟨adv, capv, rfl⟩ := hK.form
  clear hE hK hin hk hn
  go_enter Tryd.func3, Tryd.ntmps3
  go_wp2_with fail
  refine (first_any W ea (HE.out _ (Below.refl _ _))).mono ?_
  rintro e w1 ⟨rfl, hb1⟩
  by_cases h4 : (4 : Int) < (K.length : Int)
  · go_wp2_with fail
    go_ret
    exact ⟨rfl, hb1⟩
  by_cases h300 : (300 : Int) < (s.length : Int)
  · go_wp2_with fail
    go_ret
    exact ⟨rfl, hb1⟩
  go_wp2_with fail
  go_loopw [10, 11, 12] (fun v10 v11 v12 wr => ∃ (i : Nat) (O : List (Value × List Nd)), v12 = .int .i64 i ∧ i ≤ K.length ∧ O.length = i ∧ v11 = .int .i64 (1 + (kidL (K.take i)).length : Nat) ∧ (kidL (K.take i)).length ≤ i * 200 ∧ Hid (O.map Prod.snd = (K.map Prod.snd).take i ∧ (∀ q ∈ K.take i, q.2.length ≤ 200)) ∧ Hid (OwnK wr w1.heap.size v10 O) ∧ Below w1.heap.size w1 wr) (fun _ _ v12 _ => K.length - (intOf v12).toNat)
  case atStart => exact ⟨0, [], rfl, by omega, rfl, by simp [kidL], by simp [kidL], ⟨by simp, fun q hq => by simp at hq⟩, OwnK.nil _ _, Below.refl _ _⟩
  case round =>
    obtain ⟨i, O, rfl, hi, hOi, rfl, hT, HL, HO, hbr⟩ := hrel
    have hbw := hb1.trans (hbr.mono hb1.size)
    obtain ⟨ado, capo, rfl⟩ := owns_slice HO.out.1
    by_cases hlt : i < K.length
    · have hlt' : (i : Int) < (K.length : Int) := by omega
      obtain ⟨⟨pv, X⟩, hp⟩ : ∃ p, K[i]? = some p := ⟨_, List.getElem?_eq_getElem hlt⟩
      obtain ⟨gk, ok, capk, hv, hg, hc, hN⟩ := (HKW.out _ hbw).at hp
      cases hv
      simp only at hc hN
      obtain ⟨adx, capx, rfl⟩ := hN.form
      have hxin := HIN.out (.slice adx X.length capx, X) (List.mem_of_getElem? hp)
      simp only at hxin
      have HLT : Hid (Calls Tryd.prog 9 #[.slice adx X.length capx] wr fun e w' => e = .returned (.bool (lightL X)) ∧ w' = wr) := light_any _ X wr hN (fun x hx => (hxin.1 x hx).s) hxin.2
      have HP : Hid (K[i]? = some (.slice adx X.length capx, X)) := hp
      have HSC : Hid (∀ W', Below w1.heap.size w1 W' → ToldC gk (ok + i) (.slice adx X.length capx) W') := fun W' hb => by
        obtain ⟨g2, o2, cap2, hv2, _, hc2, _⟩ := (HKW.out _ (hb1.trans (hb.mono hb1.size))).at hp
        cases hv2
        exact hc2
      have HND : Hid (X.length ≤ 200 → ∀ W', Below wr.heap.size wr W' → Calls Tryd.prog 10 #[.slice adx X.length capx] W' fun e w' => ∃ v', e = .returned v' ∧ NdOwn w' W'.heap.size v' X ∧ Below W'.heap.size W' w') := fun h2 W' hb => nodes_any _ X W' (hN.below hb (Nat.le_refl _)) (by omega)
      clear hN hp hxin
      go_wp2_with fail
      refine Calls.mono HLT.out ?_
      rintro e w2 ⟨rfl, hw2⟩
      have hw2' := hw2.symm
      subst hw2'
      clear HLT hw2
      cases hlx : lightL X with
      | false =>
        go_wp2_with fail
        go_ret
        exact ⟨rfl, hbw⟩
      | true =>
        have hx200 := light_few X hlx
        have HND2 := HND.out hx200
        clear HND hlx
        have HND : Hid (∀ W', Below wr.heap.size wr W' → Calls Tryd.prog 10 #[.slice adx X.length capx] W' fun e w' => ∃ v', e = .returned v' ∧ NdOwn w' W'.heap.size v' X ∧ Below W'.heap.size W' w') := HND2
        clear HND2
        go_upto_region 11 with fail
        subst hOi
        go_cut [10] from 46 to 62 (fun v10 wx => ∃ u, Hid (OwnK wx w1.heap.size v10 (O ++ [(u, X)]) ∧ Below w1.heap.size wr wx))
        case first => as_aux_lemma =>
          have HS : Hid (∀ W', Below wr.heap.size wr W' → ToldC gk (ok + O.length) (.slice adx X.length capx) W') := fun W' hb => HSC.out _ (hbr.trans (hb.mono hbr.size))
          obtain ⟨z7, Z7⟩ : ∃ z7 : Int, Hid (z7 = -7) := ⟨_, rfl⟩
          obtain ⟨z0, Z0⟩ : ∃ z0 : Int, Hid (z0 = 0) := ⟨_, rfl⟩
          obtain ⟨e0, E0⟩ : ∃ e0 : ByteArray, Hid (e0 = ⟨#[]⟩) := ⟨_, rfl⟩
          have HNEW : Hid ([.int .i64 z7, .int .i64 z0, .int .i64 z0, .int .i64 z0, .string e0] = ndC hidN) := by unfold Hid; rw [Z7.out, Z0.out, E0.out]; rfl
          refine wp_region_held (S := ToldC gk (ok + O.length) (.slice adx X.length capx)) (by kernel_rfl) ?_
          change wpAnyH _ _ _ _ _ _ _ _ (World.drew _)
          have hbd : Below wr.heap.size wr (World.drew wr) := ⟨rfl, rfl, rfl, Nat.le_refl _, fun _ _ => rfl⟩
          have hS0 := HS.out _ hbd
          refine wpAnyH_take (i := 0) (v := .slice ado O.length capo) rfl (by kernel_rfl) (by kernel_rfl) (by kernel_rfl) (fun _ _ _ h => h) (Yields.yieldsIf (Or.inl ⟨by rfl, by intro wz; go_simp⟩)) hS0 ?_
          try simp only [Act.put, List.getElem_toArray, List.getElem_cons_zero, List.setIfInBounds_toArray, List.set_cons_zero, List.set_cons_succ]
          refine wpAnyH_take (i := 1) (v := .slice (some ⟨gk, ok, none⟩) K.length capv) rfl (by kernel_rfl) (by kernel_rfl) (by kernel_rfl) (fun _ _ _ h => h) (Yields.yieldsIf (Or.inl ⟨by rfl, by intro wz; go_simp⟩)) hS0 ?_
          try simp only [Act.put, List.getElem_toArray, List.getElem_cons_succ, List.getElem_cons_zero, List.setIfInBounds_toArray, List.set_cons_zero, List.set_cons_succ]
          refine wpAnyH_take (i := 2) (v := .int .i64 (O.length : Nat)) rfl (by kernel_rfl) (by kernel_rfl) (by kernel_rfl) (fun _ _ _ h => h) (Yields.yieldsIf (Or.inl ⟨by rfl, by intro wz; go_simp⟩)) hS0 ?_
          try simp only [Act.put, List.getElem_toArray, List.getElem_cons_succ, List.getElem_cons_zero, List.setIfInBounds_toArray, List.set_cons_zero, List.set_cons_succ]
          refine wpAnyH_take (i := 3) (v := .pointer (some ⟨gk, ok + O.length, none⟩)) rfl (by kernel_rfl) (by kernel_rfl) (by kernel_rfl) (fun _ _ _ h => h) (Yields.yieldsIf (Or.inl ⟨by rfl, by intro wz; go_simp⟩)) hS0 ?_
          try simp only [Act.put, List.getElem_toArray, List.getElem_cons_succ, List.getElem_cons_zero, List.setIfInBounds_toArray, List.set_cons_zero, List.set_cons_succ]
          refine wpAnyH_take (i := 4) (v := .slice adx X.length capx) rfl (by kernel_rfl) (by kernel_rfl) (by kernel_rfl) (fun _ _ _ h => h) (Or.inl ⟨by rfl, fun wz hS => by have s1 := hS; unfold ToldC at s1; go_simp⟩) hS0 ?_
          try simp only [Act.put, List.getElem_toArray, List.getElem_cons_succ, List.getElem_cons_zero, List.setIfInBounds_toArray, List.set_cons_zero, List.set_cons_succ]
          refine wpAnyH_take (i := 6) (v := .agg #[.int .i64 z7, .int .i64 z0, .int .i64 z0, .int .i64 z0, .string e0]) rfl (by kernel_rfl) (by kernel_rfl) (by kernel_rfl) (fun _ _ _ h => h) (Yields.yieldsIf (Or.inl ⟨by rfl, by intro wz; obtain rfl := Z7.out; obtain rfl := Z0.out; obtain rfl := E0.out; go_simp⟩)) hS0 ?_
          try simp only [Act.put, List.getElem_toArray, List.getElem_cons_succ, List.getElem_cons_zero, List.setIfInBounds_toArray, List.set_cons_zero, List.set_cons_succ]
          refine wpAnyH_take (i := 9) (v := .slice (some ⟨gk, ok, none⟩) K.length capv) rfl (by kernel_rfl) (by kernel_rfl) (by kernel_rfl) (fun _ _ _ h => h) (Yields.yieldsIf (Or.inl ⟨by rfl, by intro wz; go_simp⟩)) hS0 ?_
          try simp only [Act.put, List.getElem_toArray, List.getElem_cons_succ, List.getElem_cons_zero, List.setIfInBounds_toArray, List.set_cons_zero, List.set_cons_succ]
          refine wpAnyH_take (i := 10) (v := .int .i64 (O.length : Nat)) rfl (by kernel_rfl) (by kernel_rfl) (by kernel_rfl) (fun _ _ _ h => h) (Yields.yieldsIf (Or.inl ⟨by rfl, by intro wz; go_simp⟩)) hS0 ?_
          try simp only [Act.put, List.getElem_toArray, List.getElem_cons_succ, List.getElem_cons_zero, List.setIfInBounds_toArray, List.set_cons_zero, List.set_cons_succ]
          refine wpAnyH_take (i := 11) (v := .pointer (some ⟨gk, ok + O.length, none⟩)) rfl (by kernel_rfl) (by kernel_rfl) (by kernel_rfl) (fun _ _ _ h => h) (Yields.yieldsIf (Or.inl ⟨by rfl, by intro wz; go_simp⟩)) hS0 ?_
          try simp only [Act.put, List.getElem_toArray, List.getElem_cons_succ, List.getElem_cons_zero, List.setIfInBounds_toArray, List.set_cons_zero, List.set_cons_succ]
          refine wpAnyH_take (i := 12) (v := .slice adx X.length capx) rfl (by kernel_rfl) (by kernel_rfl) (by kernel_rfl) (fun _ _ _ h => h) (Or.inl ⟨by rfl, fun wz hS => by have s1 := hS; unfold ToldC at s1; go_simp⟩) hS0 ?_
          try simp only [Act.put, List.getElem_toArray, List.getElem_cons_succ, List.getElem_cons_zero, List.setIfInBounds_toArray, List.set_cons_zero, List.set_cons_succ]
          refine wpAnyH_take (i := 13) (v := .int .i64 (X.length : Nat)) rfl (by kernel_rfl) (by kernel_rfl) (by kernel_rfl) (fun _ _ _ h => h) (Yields.yieldsIf (Or.inl ⟨by rfl, by intro wz; go_simp⟩)) hS0 ?_
          try simp only [Act.put, List.getElem_toArray, List.getElem_cons_succ, List.getElem_cons_zero, List.setIfInBounds_toArray, List.set_cons_zero, List.set_cons_succ]
          refine wpAnyH_ready (rs := [5, 7]) (by kernel_rfl) (by simp) ?_
          refine AllReadyH.cons rfl (fun K' hK => ?_) ?_
          · go_simp
            refine Calls.mono (HND.out _ hbd) ?_
            rintro e w2 ⟨v2, rfl, ho2, hb2'⟩
            obtain ⟨ad2, cap2, rfl⟩ := owns_slice ho2
            have hb2 := hbd.trans (hb2'.mono hbd.size)
            refine hK.out _ _ (HS.out _ hb2) (fun _ => ?_)
            clear hK K'
            try simp only [Act.put, List.getElem_toArray, List.getElem_cons_succ, List.getElem_cons_zero, List.setIfInBounds_toArray, List.set_cons_zero, List.set_cons_succ]
            refine wpAnyH_ready (rs := [7]) (by kernel_rfl) (by simp) ?_
            refine AllReadyH.cons rfl (fun K' hK => ?_) AllReadyH.nil
            obtain ⟨w7, hw7⟩ : ∃ w7, w7 = w2.alloc (.cells #[.int .i64 z7, .int .i64 z0, .int .i64 z0, .int .i64 z0, .string e0] 28) := ⟨_, rfl⟩
            have hb7 : Below wr.heap.size wr w7 := by rw [hw7]; exact hb2.alloc hb2.size _
            have HO7 : Hid (w7.ownsRow wr.heap.size 28 5 (.slice ad2 X.length cap2) X.length (ndCs X)) := by unfold Hid; rw [hw7]; exact NdOwn.below ho2 (below_new _ _)
            have HT7 : Hid (∀ j u, ([.int .i64 z7, .int .i64 z0, .int .i64 z0, .int .i64 z0, .string e0] : List Value)[j]? = some u → w7.cell? ((⟨w2.heap.size, 0, none⟩ : Addr).add j) = some u) := by unfold Hid; rw [hw7]; exact cells_new w2 [.int .i64 z7, .int .i64 z0, .int .i64 z0, .int .i64 z0, .string e0] 28
            refine step_build _ rfl z7 z0 z0 z0 e0 rfl ?_
            rw [← hw7]
            refine hK.out _ _ (HS.out _ hb7) (fun _ => ?_)
            clear hw7
            clear hK K'
            try simp only [Act.put, List.getElem_toArray, List.getElem_cons_succ, List.getElem_cons_zero, List.setIfInBounds_toArray, List.set_cons_zero, List.set_cons_succ]
            refine wpAnyH_ready (rs := [8]) (by kernel_rfl) (by simp) ?_
            refine AllReadyH.cons rfl (fun K' hK => ?_) AllReadyH.nil
            refine step_append _ _ 25 rfl wr.heap.size 28 i8 _ 5 48 Tryd.underlying25 hi8 hy0 hy1 hy2 rfl (by decide) (.slice ad2 X.length cap2) X.length (ndCs X) rfl HO7.out ⟨w2.heap.size, 0, none⟩ 1 1 [.int .i64 z7, .int .i64 z0, .int .i64 z0, .int .i64 z0, .string e0] rfl rfl HT7.out (by simp [Value.oneCell']) (by have := maxLen_big; omega) (by omega) hb7.size ?_
            intro v8 w8 hown8 hgrow8 _ _
            obtain ⟨g8, cap8, rfl, hcap8, hg8⟩ := owns_some hown8 (by omega)
            have hb8 := grown_own hb7.size hb7 HO7.out hgrow8
            have HO8 : Hid (OwnH w8 wr.heap.size (.slice (some ⟨g8, 0, none⟩) X.length cap8) X) := ⟨g8, cap8, rfl, by rw [ndCs_snoc, ← HNEW.out]; exact hown8⟩
            refine hK.out _ _ (HS.out _ hb8) (fun hS8 => ?_)
            clear hK K' hown8 hgrow8 HO7 HT7
            try simp only [Act.put, List.getElem_toArray, List.getElem_cons_succ, List.getElem_cons_zero, List.setIfInBounds_toArray, List.set_cons_zero, List.set_cons_succ]
            refine wpAnyH_take (i := 14) (v := .slice (some ⟨g8, 0, none⟩) X.length cap8) rfl (by kernel_rfl) (by kernel_rfl) (by kernel_rfl) (fun _ _ _ h => h) (Yields.yieldsIf (Or.inl ⟨by rfl, by intro wz; go_simp; first | done | (rw [if_pos (by omega)]) | omega⟩)) hS8 ?_
            try simp only [Act.put, List.getElem_toArray, List.getElem_cons_succ, List.getElem_cons_zero, List.setIfInBounds_toArray, List.set_cons_zero, List.set_cons_succ]
            obtain ⟨w9, hw9⟩ : ∃ w9, w9 = w8.alloc (.cells #[.slice (some ⟨g8, 0, none⟩) X.length cap8] 25) := ⟨_, rfl⟩
            have HW9 : Hid (w9 = w8.alloc (.cells #[.slice (some ⟨g8, 0, none⟩) X.length cap8] 25)) := hw9
            have hb9 : Below wr.heap.size wr w9 := by rw [hw9]; exact hb8.alloc hb8.size _
            refine wpAnyH_ready (rs := [15]) (by kernel_rfl) (by simp) ?_
            refine AllReadyH.cons rfl (fun K' hK => ?_) AllReadyH.nil
            go_simp
            rw [← hw9]
            refine hK.out _ _ (HS.out _ hb9) (fun _ => ?_)
            clear hw9
            clear hK K'
            try simp only [Act.put, List.getElem_toArray, List.getElem_cons_succ, List.getElem_cons_zero, List.setIfInBounds_toArray, List.set_cons_zero, List.set_cons_succ]
            refine wpAnyH_ready (rs := [16]) (by kernel_rfl) (by simp) ?_
            refine AllReadyH.cons rfl (fun K' hK => ?_) AllReadyH.nil
            refine step_append _ _ 22 rfl w1.heap.size 25 i0 _ 1 24 Tryd.underlying22 hi0 hz0 hz1 hz2 rfl (by decide) (.slice ado O.length capo) O.length (O.map Prod.fst) rfl (HO.out.below hb9).1 ⟨w8.heap.size, 0, none⟩ 1 1 [.slice (some ⟨g8, 0, none⟩) X.length cap8] rfl rfl (by rw [HW9.out]; exact cells_new w8 _ 25) (slice_one _ ⟨_, _, _, rfl⟩) (by have := maxLen_big; omega) (by omega) (Nat.le_trans hbr.size hb9.size) ?_
            intro v10 w10 hown10 hgrow10 _ _
            have hfin := OwnK.snoc (o := .cells #[.slice (some ⟨g8, 0, none⟩) X.length cap8] 25) HO.out hb8 hbr.size hbr.size HO8.out hown10 (HW9.out ▸ hgrow10)
            have HFN : Hid (OwnK w10 w1.heap.size v10 (O ++ [(.slice (some ⟨g8, 0, none⟩) X.length cap8, X)]) ∧ Below w1.heap.size wr w10) := hfin
            have hS10 : ToldC gk (ok + O.length) (.slice adx X.length capx) w10 := HSC.out _ (hbr.trans hfin.2)
            obtain ⟨ad10, cap10, rfl⟩ := owns_slice hown10
            clear hfin hown10 hgrow10
            refine hK.out _ _ hS10 (fun _ => ?_)
            clear hK K'
            try simp only [Act.put, List.getElem_toArray, List.getElem_cons_succ, List.getElem_cons_zero, List.setIfInBounds_toArray, List.set_cons_zero, List.set_cons_succ]
            refine wpAnyH_ready (rs := [17]) (by kernel_rfl) (by simp) ?_
            refine AllReadyH.cons rfl (fun K' hK => ?_) AllReadyH.nil
            go_simp
            refine hK.out _ _ hS10 (fun _ => ?_)
            clear hK K'
            refine wpAnyH_done (by kernel_rfl) ?_ _
            go_wp2_with fail
            go_meet
            case rel => exact ⟨_, HFN.out.1, HFN.out.2⟩
          refine AllReadyH.cons rfl (fun K' hK => ?_) AllReadyH.nil
          obtain ⟨w6, hw6⟩ : ∃ w6, w6 = (World.drew wr).alloc (.cells #[.int .i64 z7, .int .i64 z0, .int .i64 z0, .int .i64 z0, .string e0] 28) := ⟨_, rfl⟩
          have hb6 : Below wr.heap.size wr w6 := by rw [hw6]; exact hbd.alloc hbd.size _
          have HT6 : Hid (∀ j u, ([.int .i64 z7, .int .i64 z0, .int .i64 z0, .int .i64 z0, .string e0] : List Value)[j]? = some u → w6.cell? ((⟨wr.heap.size, 0, none⟩ : Addr).add j) = some u) := by unfold Hid; rw [hw6]; exact cells_new (World.drew wr) [.int .i64 z7, .int .i64 z0, .int .i64 z0, .int .i64 z0, .string e0] 28
          have hs6 : wr.heap.size < w6.heap.size := by rw [hw6]; simp
          refine step_build _ rfl z7 z0 z0 z0 e0 rfl ?_
          rw [← hw6]
          refine hK.out _ _ (HS.out _ hb6) (fun _ => ?_)
          clear hw6
          clear hK K'
          try simp only [Act.put, List.getElem_toArray, List.getElem_cons_succ, List.getElem_cons_zero, List.setIfInBounds_toArray, List.set_cons_zero, List.set_cons_succ]
          refine wpAnyH_ready (rs := [5]) (by kernel_rfl) (by simp) ?_
          refine AllReadyH.cons rfl (fun K' hK => ?_) AllReadyH.nil
          go_simp
          refine Calls.mono (HND.out _ hb6) ?_
          rintro e w7 ⟨v2, rfl, ho2, hb2'⟩
          obtain ⟨ad2, cap2, rfl⟩ := owns_slice ho2
          have hb7 := hb6.trans (hb2'.mono hb6.size)
          have HO7 : Hid (w7.ownsRow wr.heap.size 28 5 (.slice ad2 X.length cap2) X.length (ndCs X)) := owns_lower ho2 (Nat.le_of_lt hs6)
          have HT7 : Hid (∀ j u, ([.int .i64 z7, .int .i64 z0, .int .i64 z0, .int .i64 z0, .string e0] : List Value)[j]? = some u → w7.cell? ((⟨wr.heap.size, 0, none⟩ : Addr).add j) = some u) := fun j u hu => by
            have h1 := HT6.out j u hu
            rw [Addr.add_lit] at h1 ⊢
            exact (hb2'.cell (p := ⟨wr.heap.size, 0 + j, none⟩) hs6).trans h1
          refine hK.out _ _ (HS.out _ hb7) (fun _ => ?_)
          clear hK K'
          try simp only [Act.put, List.getElem_toArray, List.getElem_cons_succ, List.getElem_cons_zero, List.setIfInBounds_toArray, List.set_cons_zero, List.set_cons_succ]
          refine wpAnyH_ready (rs := [8]) (by kernel_rfl) (by simp) ?_
          refine AllReadyH.cons rfl (fun K' hK => ?_) AllReadyH.nil
          refine step_append _ _ 25 rfl wr.heap.size 28 i8 _ 5 48 Tryd.underlying25 hi8 hy0 hy1 hy2 rfl (by decide) (.slice ad2 X.length cap2) X.length (ndCs X) rfl HO7.out ⟨wr.heap.size, 0, none⟩ 1 1 [.int .i64 z7, .int .i64 z0, .int .i64 z0, .int .i64 z0, .string e0] rfl rfl HT7.out (by simp [Value.oneCell']) (by have := maxLen_big; omega) (by omega) hb7.size ?_
          intro v8 w8 hown8 hgrow8 _ _
          obtain ⟨g8, cap8, rfl, hcap8, hg8⟩ := owns_some hown8 (by omega)
          have hb8 := grown_own hb7.size hb7 HO7.out hgrow8
          have HO8 : Hid (OwnH w8 wr.heap.size (.slice (some ⟨g8, 0, none⟩) X.length cap8) X) := ⟨g8, cap8, rfl, by rw [ndCs_snoc, ← HNEW.out]; exact hown8⟩
          refine hK.out _ _ (HS.out _ hb8) (fun hS8 => ?_)
          clear hK K' hown8 hgrow8 HO7 HT7
          try simp only [Act.put, List.getElem_toArray, List.getElem_cons_succ, List.getElem_cons_zero, List.setIfInBounds_toArray, List.set_cons_zero, List.set_cons_succ]
          refine wpAnyH_take (i := 14) (v := .slice (some ⟨g8, 0, none⟩) X.length cap8) rfl (by kernel_rfl) (by kernel_rfl) (by kernel_rfl) (fun _ _ _ h => h) (Yields.yieldsIf (Or.inl ⟨by rfl, by intro wz; go_simp; first | done | (rw [if_pos (by omega)]) | omega⟩)) hS8 ?_
          try simp only [Act.put, List.getElem_toArray, List.getElem_cons_succ, List.getElem_cons_zero, List.setIfInBounds_toArray, List.set_cons_zero, List.set_cons_succ]
          obtain ⟨w9, hw9⟩ : ∃ w9, w9 = w8.alloc (.cells #[.slice (some ⟨g8, 0, none⟩) X.length cap8] 25) := ⟨_, rfl⟩
          have HW9 : Hid (w9 = w8.alloc (.cells #[.slice (some ⟨g8, 0, none⟩) X.length cap8] 25)) := hw9
          have hb9 : Below wr.heap.size wr w9 := by rw [hw9]; exact hb8.alloc hb8.size _
          refine wpAnyH_ready (rs := [15]) (by kernel_rfl) (by simp) ?_
          refine AllReadyH.cons rfl (fun K' hK => ?_) AllReadyH.nil
          go_simp
          rw [← hw9]
          refine hK.out _ _ (HS.out _ hb9) (fun _ => ?_)
          clear hw9
          clear hK K'
          try simp only [Act.put, List.getElem_toArray, List.getElem_cons_succ, List.getElem_cons_zero, List.setIfInBounds_toArray, List.set_cons_zero, List.set_cons_succ]
          refine wpAnyH_ready (rs := [16]) (by kernel_rfl) (by simp) ?_
          refine AllReadyH.cons rfl (fun K' hK => ?_) AllReadyH.nil
          refine step_append _ _ 22 rfl w1.heap.size 25 i0 _ 1 24 Tryd.underlying22 hi0 hz0 hz1 hz2 rfl (by decide) (.slice ado O.length capo) O.length (O.map Prod.fst) rfl (HO.out.below hb9).1 ⟨w8.heap.size, 0, none⟩ 1 1 [.slice (some ⟨g8, 0, none⟩) X.length cap8] rfl rfl (by rw [HW9.out]; exact cells_new w8 _ 25) (slice_one _ ⟨_, _, _, rfl⟩) (by have := maxLen_big; omega) (by omega) (Nat.le_trans hbr.size hb9.size) ?_
          intro v10 w10 hown10 hgrow10 _ _
          have hfin := OwnK.snoc (o := .cells #[.slice (some ⟨g8, 0, none⟩) X.length cap8] 25) HO.out hb8 hbr.size hbr.size HO8.out hown10 (HW9.out ▸ hgrow10)
          have HFN : Hid (OwnK w10 w1.heap.size v10 (O ++ [(.slice (some ⟨g8, 0, none⟩) X.length cap8, X)]) ∧ Below w1.heap.size wr w10) := hfin
          have hS10 : ToldC gk (ok + O.length) (.slice adx X.length capx) w10 := HSC.out _ (hbr.trans hfin.2)
          obtain ⟨ad10, cap10, rfl⟩ := owns_slice hown10
          clear hfin hown10 hgrow10
          refine hK.out _ _ hS10 (fun _ => ?_)
          clear hK K'
          try simp only [Act.put, List.getElem_toArray, List.getElem_cons_succ, List.getElem_cons_zero, List.setIfInBounds_toArray, List.set_cons_zero, List.set_cons_succ]
          refine wpAnyH_ready (rs := [17]) (by kernel_rfl) (by simp) ?_
          refine AllReadyH.cons rfl (fun K' hK => ?_) AllReadyH.nil
          go_simp
          refine hK.out _ _ hS10 (fun _ => ?_)
          clear hK K'
          refine wpAnyH_done (by kernel_rfl) ?_ _
          go_wp2_with fail
          go_meet
          case rel => exact ⟨_, HFN.out.1, HFN.out.2⟩
        case rest =>
          obtain ⟨u, HU⟩ := hcut
          have hbx := hbr.trans HU.out.2
          have hcx : wc.cell? ⟨gk, ok + O.length, none⟩ = some (.slice adx X.length capx) := HSC.out _ hbx
          have HL2 : Hid ((O ++ [(u, X)]).map Prod.snd = (K.map Prod.snd).take (O.length + 1) ∧ (∀ q ∈ K.take (O.length + 1), q.2.length ≤ 200)) := by
            refine ⟨?_, fun q hq => ?_⟩
            · rw [List.map_append, HL.out.1, take_one (x := X) (by rw [List.getElem?_map, HP.out]; rfl)]
              rfl
            · rw [take_one HP.out] at hq
              rcases List.mem_append.1 hq with hq | hq
              · exact HL.out.2 q hq
              · simp only [List.mem_singleton] at hq
                subst hq
                exact hx200
          have HKS : Hid (kidL (K.take (O.length + 1)) = kidL (K.take O.length) ++ X) := kidL_snoc K O.length _ HP.out
          go_wp2_with fail
          refine ⟨⟨O.length + 1, O ++ [(u, X)], by simp, by omega, by simp, ?_, ?_, HL2.out, HU.out.1, hbx⟩, by simp [intOf]; omega⟩
          · rw [HKS.out, List.length_append]
            simp
            omega
          · rw [HKS.out, List.length_append]
            omega
    · have hlt' : ¬ (i : Int) < (K.length : Int) := by omega
      obtain rfl : i = K.length := by omega
      rw [List.take_length] at hT HL ⊢
      rw [show (K.map Prod.snd).take K.length = K.map Prod.snd by rw [← List.length_map (f := Prod.snd), List.take_length]] at HL
      obtain ⟨wn, hwn⟩ : ∃ wn, wn = wr := ⟨_, rfl⟩
      subst hwn
      have HOO : Hid (OwnK wn w1.heap.size (.slice ado K.length capo) O ∧ O.length = K.length) := by
        have := HO.out
        rw [hOi] at this
        exact ⟨this, hOi⟩
      rw [hOi]
      clear HO hOi
      obtain ⟨P, hP⟩ : ∃ P, P = newN kind n s (K.map Prod.snd) := ⟨_, rfl⟩
      have hPl : P.length = 1 + (kidL K).length := by rw [hP]; simp [newN, kidL]; omega
      have HP : Hid (P = newN kind n s (K.map Prod.snd)) := hP
      have HN0 : Hid (P[0]? = some ⟨kind, n, K.length, P.length, s⟩) := by
        unfold Hid
        rw [hPl, hP]
        simp [newN, kidL]
        omega
      have HNW : Hid (∀ W', Below wn.heap.size wn W' → Calls Tryd.prog 11 #[.int .i64 kind, .int .i64 n, str s, .slice ado K.length capo] W' fun e w' => ∃ v', e = .returned v' ∧ NdOwn w' W'.heap.size v' P ∧ Below W'.heap.size W' w') := fun W' hb => by
        have hkid : kidL O = kidL K := by unfold kidL; rw [HL.out.1]
        have := new_own kind n s _ O W' (HOO.out.1.at.below hb (Nat.le_refl _)) (by have := HOO.out.2; omega) (by rw [hkid]; omega)
        rw [HL.out.1, ← hP] at this
        exact this
      have HPI : Hid (∀ x ∈ P, NdIn x) := fun x hx => by
        rw [hP, newN] at hx
        rcases List.mem_cons.1 hx with rfl | hx
        · refine ⟨HI.out.1, HI.out.2, ⟨by simp only; omega, by simp only; simp; omega⟩, ⟨by simp only; omega, by simp only; have : (List.map Prod.snd K).flatten.length = (kidL K).length := rfl; omega⟩, by simp only; omega⟩
        · obtain ⟨q, hq, hxq⟩ := kid_mem K x hx
          exact (HIN.out q hq).1 x hxq
      have hP1 : 1 ≤ P.length := by omega
      have hP2 : P.length ≤ 801 := by omega
      have hK8 : (kidL K).length ≤ 800 := by omega
      rw [← hPl]
      clear hP hT hPl
      go_wp2_with fail
      refine Calls.mono (HNW.out _ (Below.refl _ _)) ?_
      rintro e w2 ⟨v2, rfl, ho2, hb2⟩
      obtain ⟨gp, cpp, rfl, hcp, hgp⟩ := owns_some ho2 (by omega)
      have HPW : Hid (∀ W', Below w2.heap.size w2 W' → NdOwn W' wn.heap.size (.slice (some ⟨gp, 0, none⟩) P.length cpp) P) := fun W' hb => NdOwn.below ho2 hb
      obtain ⟨g', o', cap', hv, hg', c0, c1, c2, c3, c4⟩ := (NdOwn.at ho2).at HN0.out
      cases hv
      simp only [Nat.zero_mul, Nat.add_zero, Nat.zero_add] at c0 c1 c2 c3 c4
      have hbw2 := hbw.trans (hb2.mono hbw.size)
      have hP0 : 0 < P.length := hP1
      clear ho2
      go_wp2_with fail
      clear c0 c1 c2 c3 c4
      go_loopw [14, 15] (fun v14 v15 wr => ∃ i : Nat, v15 = .int .i64 i ∧ v14 = .int .i64 (1 + (kidL (K.take i)).length : Nat) ∧ i ≤ K.length ∧ Below w2.heap.size w2 wr) (fun _ v15 _ => K.length - (intOf v15).toNat)
      case atStart => exact ⟨0, rfl, by simp [kidL], by omega, Below.refl _ _⟩
      case round =>
        obtain ⟨i, rfl, rfl, hi, hbr2⟩ := hrel
        have hbw3 := hbw2.trans (hbr2.mono hbw2.size)
        by_cases hlt2 : i < K.length
        · have hlt2' : (i : Int) < (K.length : Int) := by omega
          obtain ⟨⟨pv, X⟩, hp⟩ : ∃ p, K[i]? = some p := ⟨_, List.getElem?_eq_getElem hlt2⟩
          obtain ⟨gk, ok, capk, hv, hg, hc, hN⟩ := (HKW.out _ hbw3).at hp
          cases hv
          simp only at hc hN
          obtain ⟨adx, capx, rfl⟩ := hN.form
          have HS : Hid (∀ W', Below wr.heap.size wr W' → ToldC gk (ok + i) (.slice adx X.length capx) W') := fun W' hb => by
            obtain ⟨g2, o2, cap2, hv2, _, hc2, _⟩ := (HKW.out _ (hbw3.trans (hb.mono hbw3.size))).at hp
            cases hv2
            exact hc2
          obtain ⟨a, ha⟩ : ∃ a, 1 + (kidL (K.take i)).length = a := ⟨_, rfl⟩
          have HKS : Hid (kidL (K.take (i + 1)) = kidL (K.take i) ++ X) := kidL_snoc K i _ hp
          have HPT : Hid ((P.drop a).take X.length = X ∧ a + X.length ≤ P.length) := by
            have e := newN_part kind n s (K.map Prod.snd) i X (by rw [List.getElem?_map, hp]; rfl)
            rw [← take_flat, ha, ← HP.out] at e
            refine ⟨e, ?_⟩
            have h1 := kidL_le K (i + 1)
            rw [HKS.out, List.length_append] at h1
            have h2 : P.length = (kidL K).length + 1 := by rw [HP.out]; simp [newN, kidL]
            omega
          have hax : a + X.length ≤ P.length := HPT.out.2
          obtain ⟨sa, HSA⟩ : ∃ sa, Hid ((if cpp = a then some (⟨gp, 0, none⟩ : Addr) else some ⟨gp, a * 5, none⟩) = sa) := ⟨_, rfl⟩
          have HSM : Hid (∀ W', Below wr.heap.size wr W' → Calls Tryd.prog 12 #[.slice sa X.length (cpp - a), .slice adx X.length capx] W' fun e w' => e = .returned (.bool true) ∧ Below W'.heap.size W' w') := fun W' hb => by
            have h1 := (NdOwn.at (HPW.out _ (hbr2.trans (hb.mono hbr2.size)))).part hcp a X.length hax
            rw [HPT.out.1, Nat.zero_add, HSA.out] at h1
            have := sameNodes_any _ (.slice adx X.length capx) X X W' h1 (hN.below hb (Nat.le_refl _)) (by omega)
            rw [sameNs_true rfl] at this
            exact this
          have hcx := hc
          have HA : Hid (1 + (kidL (K.take i)).length = a) := ha
          rw [ha]
          clear hN hp ha hc
          go_upto_region 20 with fail
          go_cut [141] from 126 to 141 (fun v141 wx => v141 = .bool false ∧ Below wr.heap.size wr wx)
          case first => as_aux_lemma =>
            refine wp_region_held (S := ToldC gk (ok + i) (.slice adx X.length capx)) (by kernel_rfl) ?_
            change wpAnyH _ _ _ _ _ _ _ _ (World.drew _)
            have hbd : Below wr.heap.size wr (World.drew wr) := ⟨rfl, rfl, rfl, Nat.le_refl _, fun _ _ => rfl⟩
            have hS0 := HS.out _ hbd
            refine wpAnyH_take (i := 0) (v := .slice (some ⟨gp, 0, none⟩) P.length cpp) rfl (by kernel_rfl) (by kernel_rfl) (by kernel_rfl) (fun _ _ _ h => h) (Yields.yieldsIf (Or.inl ⟨by rfl, by intro wz; go_simp⟩)) hS0 ?_
            try simp only [Act.put, List.getElem_toArray, List.getElem_cons_zero, List.setIfInBounds_toArray, List.set_cons_zero, List.set_cons_succ]
            refine wpAnyH_take (i := 1) (v := .int .i64 (a : Nat)) rfl (by kernel_rfl) (by kernel_rfl) (by kernel_rfl) (fun _ _ _ h => h) (Yields.yieldsIf (Or.inl ⟨by rfl, by intro wz; go_simp⟩)) hS0 ?_
            try simp only [Act.put, List.getElem_toArray, List.getElem_cons_succ, List.getElem_cons_zero, List.setIfInBounds_toArray, List.set_cons_zero, List.set_cons_succ]
            refine wpAnyH_take (i := 2) (v := .int .i64 (a : Nat)) rfl (by kernel_rfl) (by kernel_rfl) (by kernel_rfl) (fun _ _ _ h => h) (Yields.yieldsIf (Or.inl ⟨by rfl, by intro wz; go_simp⟩)) hS0 ?_
            try simp only [Act.put, List.getElem_toArray, List.getElem_cons_succ, List.getElem_cons_zero, List.setIfInBounds_toArray, List.set_cons_zero, List.set_cons_succ]
            refine wpAnyH_take (i := 3) (v := .slice (some ⟨gk, ok, none⟩) K.length capv) rfl (by kernel_rfl) (by kernel_rfl) (by kernel_rfl) (fun _ _ _ h => h) (Yields.yieldsIf (Or.inl ⟨by rfl, by intro wz; go_simp⟩)) hS0 ?_
            try simp only [Act.put, List.getElem_toArray, List.getElem_cons_succ, List.getElem_cons_zero, List.setIfInBounds_toArray, List.set_cons_zero, List.set_cons_succ]
            refine wpAnyH_take (i := 4) (v := .int .i64 (i : Nat)) rfl (by kernel_rfl) (by kernel_rfl) (by kernel_rfl) (fun _ _ _ h => h) (Yields.yieldsIf (Or.inl ⟨by rfl, by intro wz; go_simp⟩)) hS0 ?_
            try simp only [Act.put, List.getElem_toArray, List.getElem_cons_succ, List.getElem_cons_zero, List.setIfInBounds_toArray, List.set_cons_zero, List.set_cons_succ]
            refine wpAnyH_take (i := 5) (v := .pointer (some ⟨gk, ok + i, none⟩)) rfl (by kernel_rfl) (by kernel_rfl) (by kernel_rfl) (fun _ _ _ h => h) (Yields.yieldsIf (Or.inl ⟨by rfl, by intro wz; go_simp⟩)) hS0 ?_
            try simp only [Act.put, List.getElem_toArray, List.getElem_cons_succ, List.getElem_cons_zero, List.setIfInBounds_toArray, List.set_cons_zero, List.set_cons_succ]
            refine wpAnyH_take (i := 6) (v := .slice adx X.length capx) rfl (by kernel_rfl) (by kernel_rfl) (by kernel_rfl) (fun _ _ _ h => h) (Or.inl ⟨by rfl, fun wz hS => by have s1 := hS; unfold ToldC at s1; go_simp⟩) hS0 ?_
            try simp only [Act.put, List.getElem_toArray, List.getElem_cons_succ, List.getElem_cons_zero, List.setIfInBounds_toArray, List.set_cons_zero, List.set_cons_succ]
            refine wpAnyH_take (i := 7) (v := .int .i64 (X.length : Nat)) rfl (by kernel_rfl) (by kernel_rfl) (by kernel_rfl) (fun _ _ _ h => h) (Yields.yieldsIf (Or.inl ⟨by rfl, by intro wz; go_simp⟩)) hS0 ?_
            try simp only [Act.put, List.getElem_toArray, List.getElem_cons_succ, List.getElem_cons_zero, List.setIfInBounds_toArray, List.set_cons_zero, List.set_cons_succ]
            refine wpAnyH_take (i := 8) (v := .int .i64 ((a : Int) + (X.length : Nat))) rfl (by kernel_rfl) (by kernel_rfl) (by kernel_rfl) (fun _ _ _ h => h) (Yields.yieldsIf (Or.inl ⟨by rfl, by intro wz; go_simp; try (rw [IntKind.wrap_i64]; omega)⟩)) hS0 ?_
            try simp only [Act.put, List.getElem_toArray, List.getElem_cons_succ, List.getElem_cons_zero, List.setIfInBounds_toArray, List.set_cons_zero, List.set_cons_succ]
            refine wpAnyH_take (i := 9) (v := .slice sa X.length (cpp - a)) rfl (by kernel_rfl) (by kernel_rfl) (by kernel_rfl) (fun _ _ _ h => h) (Yields.yieldsIf (Or.inl ⟨by rfl, by intro wz; go_simp; rw [if_pos ⟨by omega, by omega⟩, if_pos (by omega), show ((a : Int) + (X.length : Int)).toNat - a = X.length by omega, HSA.out]⟩)) hS0 ?_
            try simp only [Act.put, List.getElem_toArray, List.getElem_cons_succ, List.getElem_cons_zero, List.setIfInBounds_toArray, List.set_cons_zero, List.set_cons_succ]
            refine wpAnyH_take (i := 10) (v := .slice (some ⟨gk, ok, none⟩) K.length capv) rfl (by kernel_rfl) (by kernel_rfl) (by kernel_rfl) (fun _ _ _ h => h) (Yields.yieldsIf (Or.inl ⟨by rfl, by intro wz; go_simp⟩)) hS0 ?_
            try simp only [Act.put, List.getElem_toArray, List.getElem_cons_succ, List.getElem_cons_zero, List.setIfInBounds_toArray, List.set_cons_zero, List.set_cons_succ]
            refine wpAnyH_take (i := 11) (v := .int .i64 (i : Nat)) rfl (by kernel_rfl) (by kernel_rfl) (by kernel_rfl) (fun _ _ _ h => h) (Yields.yieldsIf (Or.inl ⟨by rfl, by intro wz; go_simp⟩)) hS0 ?_
            try simp only [Act.put, List.getElem_toArray, List.getElem_cons_succ, List.getElem_cons_zero, List.setIfInBounds_toArray, List.set_cons_zero, List.set_cons_succ]
            refine wpAnyH_take (i := 12) (v := .pointer (some ⟨gk, ok + i, none⟩)) rfl (by kernel_rfl) (by kernel_rfl) (by kernel_rfl) (fun _ _ _ h => h) (Yields.yieldsIf (Or.inl ⟨by rfl, by intro wz; go_simp⟩)) hS0 ?_
            try simp only [Act.put, List.getElem_toArray, List.getElem_cons_succ, List.getElem_cons_zero, List.setIfInBounds_toArray, List.set_cons_zero, List.set_cons_succ]
            refine wpAnyH_take (i := 13) (v := .slice adx X.length capx) rfl (by kernel_rfl) (by kernel_rfl) (by kernel_rfl) (fun _ _ _ h => h) (Or.inl ⟨by rfl, fun wz hS => by have s1 := hS; unfold ToldC at s1; go_simp⟩) hS0 ?_
            try simp only [Act.put, List.getElem_toArray, List.getElem_cons_succ, List.getElem_cons_zero, List.setIfInBounds_toArray, List.set_cons_zero, List.set_cons_succ]
            refine wpAnyH_ready (rs := [14]) (by kernel_rfl) (by simp) ?_
            refine AllReadyH.cons rfl (fun K' hK => ?_) AllReadyH.nil
            go_simp
            refine Calls.mono (HSM.out _ hbd) ?_
            rintro e w2 ⟨rfl, hb2'⟩
            have hb2 := hbd.trans (hb2'.mono hbd.size)
            refine hK.out _ _ (HS.out _ hb2) (fun hS2 => ?_)
            clear hK K'
            try simp only [Act.put, List.getElem_toArray, List.getElem_cons_succ, List.getElem_cons_zero, List.setIfInBounds_toArray, List.set_cons_zero, List.set_cons_succ]
            refine wpAnyH_ready (rs := [15]) (by kernel_rfl) (by simp) ?_
            refine AllReadyH.cons rfl (fun K' hK => ?_) AllReadyH.nil
            go_simp
            refine hK.out _ _ hS2 (fun _ => ?_)
            clear hK K'
            refine wpAnyH_done (by kernel_rfl) ?_ _
            go_wp2_with fail
            go_meet
            case rel => exact ⟨rfl, hb2⟩
          case rest =>
            obtain ⟨rfl, hbx⟩ := hcut
            have hcx2 : wc.cell? ⟨gk, ok + i, none⟩ = some (.slice adx X.length capx) := HS.out _ hbx
            go_wp2_with fail
            refine ⟨⟨i + 1, by simp, ?_, by omega, hbr2.trans (hbx.mono hbr2.size)⟩, by simp [intOf]; omega⟩
            rw [HKS.out, List.length_append, ← Nat.add_assoc, HA.out]
            simp
        · have hlt2' : ¬ (i : Int) < (K.length : Int) := by omega
          obtain ⟨w3, hw3⟩ : ∃ w3, w3 = wr := ⟨_, rfl⟩
          subst hw3
          go_wp2_with fail
          refine Calls.mono (refCheck_any _ P w3 (NdOwn.at (HPW.out _ hbr2)) (by omega) HPI.out) ?_
          rintro e w4 ⟨c, ⟨adf, nf, cf, rfl⟩, hcs, hb4⟩
          have HCS : Hid (c = 0 → Seg 30 P) := hcs
          clear hcs
          have hbr4 := hbr2.trans (hb4.mono hbr2.size)
          have hbw4 := hbw3.trans (hb4.mono hbw3.size)
          have hcode := run_code c adf nf cf
          go_upto_region 24 with fail
          clear hcode
          obtain ⟨fb, hfb⟩ : ∃ fb, (c == 0) = fb := ⟨_, rfl⟩
          rw [hfb]
          have HFB : Hid ((c == 0) = fb) := hfb
          clear hfb
          go_cut [164] from 153 to 164 (fun v164 wx => v164 = .bool false ∧ Below w4.heap.size w4 wx)
          case first => as_aux_lemma =>
            cases fb with
            | true =>
              obtain rfl : c = 0 := by have := HFB.out; simpa using this
              have HKD : Hid (Calls Tryd.prog 14 #[.slice (some ⟨gp, 0, none⟩) P.length cpp] w4 fun e w' => ∃ v' K', e = .returned v' ∧ KdOwn w' w4.heap.size v' K' ∧ K'.map Prod.snd = kidsL P ∧ Below w4.heap.size w4 w') := kids_any _ P w4 (NdOwn.at (HPW.out _ hbr4)) (by omega) (by omega) (fun x hx => ⟨(HPI.out x hx).size.1, (HPI.out x hx).k.2⟩)
              have HPP : Hid (newN kind n s (kidsL P) = P) := by
                have hs := HCS.out rfl
                unfold Hid
                rw [HP.out] at hs ⊢
                exact newN_kids kind n s (K.map Prod.snd) 30 hs
              go_wp2_with fail
              refine Calls.mono HKD.out ?_
              rintro e w5 ⟨v5, K5, rfl, hk5, hs5, hb5⟩
              have hPl5 : (kidsL P).flatten.length + 1 = P.length := by
                have := congrArg List.length HPP.out
                simpa [newN] using this
              have hl5 : (kidL K5).length < 4294967296 := by unfold kidL; rw [hs5]; omega
              have hK5 : K5.length < 4294967296 := by
                have h1 := congrArg List.length hs5
                rw [List.length_map] at h1
                have h2 := kidPl_len P 0
                have h3 : (kidsL P).length = (kidPl P 0).length := by unfold kidsL; rw [List.length_map]
                omega
              have HNN : Hid (Calls Tryd.prog 11 #[.int .i64 kind, .int .i64 n, str s, v5] w5 fun e w' => ∃ v', e = .returned v' ∧ NdOwn w' w5.heap.size v' P ∧ Below w5.heap.size w5 w') := by
                have := new_own kind n s v5 K5 w5 hk5.at hK5 hl5
                rw [hs5, HPP.out] at this
                exact this
              obtain ⟨ad5, cap5, rfl⟩ := owns_slice hk5.1
              have hbx5 := hbr4.trans (hb5.mono hbr4.size)
              clear hk5 hs5 HKD hPl5 hl5 hK5
              go_wp2_with fail
              refine Calls.mono HNN.out ?_
              rintro e w6 ⟨v6, rfl, ho6, hb6⟩
              have hbx6 := hbx5.trans (hb6.mono hbx5.size)
              have HSM : Hid (Calls Tryd.prog 12 #[v6, .slice (some ⟨gp, 0, none⟩) P.length cpp] w6 fun e w' => e = .returned (.bool true) ∧ Below w6.heap.size w6 w') := by
                have := sameNodes_any v6 (.slice (some ⟨gp, 0, none⟩) P.length cpp) P P w6 (NdOwn.at ho6) (NdOwn.at (HPW.out _ hbx6)) (by omega)
                rw [sameNs_true rfl] at this
                exact this
              obtain ⟨ad6, cap6, rfl⟩ := owns_slice ho6
              clear ho6 HNN
              go_wp2_with fail
              refine Calls.mono HSM.out ?_
              rintro e w7 ⟨rfl, hb7⟩
              have HBX : Hid (Below w4.heap.size w4 w7) := by
                have h1 := hb5.trans (hb6.mono hb5.size)
                exact h1.trans (hb7.mono h1.size)
              go_wp2_with fail
              go_meet
              exact ⟨rfl, HBX.out⟩
            | false =>
              go_wp2_with fail
              go_meet
              exact ⟨rfl, Below.refl _ _⟩
          case rest =>
            obtain ⟨rfl, hbx⟩ := hcut
            have hbr5 := hbr4.trans (hbx.mono hbr4.size)
            have hPR : PRow wc gp P.length := PRow.of (HPW.out _ hbr5)
            have hbn : Below wn.heap.size wn wc := hb2.trans (hbr5.mono hb2.size)
            go_wp2_with fail
            go_loopw [17] (fun v17 wr => ∃ i : Nat, v17 = .int .i64 i ∧ 1 ≤ i ∧ i ≤ P.length ∧ Hid (PRow wr gp P.length) ∧ Below wn.heap.size wn wr) (fun v17 _ => P.length - (intOf v17).toNat)
            case atStart => exact ⟨1, rfl, Nat.le_refl _, hP1, hPR, hbn⟩
            case round =>
              obtain ⟨i, rfl, hi1, hi2, HPR, hbr6⟩ := hrel
              by_cases hlt3 : i < P.length
              · have hlt3' : (i : Int) < (P.length : Int) := by omega
                obtain ⟨u, cu, fu⟩ := HPR.out.at (i * 5 + 4) (by omega)
                have HPS : Hid (PRow (wr.setCell ⟨gp, i * 5 + 4, none⟩ (.string ⟨#[115, 112, 111, 105, 108, 116]⟩)) gp P.length) := HPR.out.set _ _
                have hbs : Below wn.heap.size wn (wr.setCell ⟨gp, i * 5 + 4, none⟩ (.string ⟨#[115, 112, 111, 105, 108, 116]⟩)) := hbr6.setCell (p := ⟨gp, i * 5 + 4, none⟩) hgp _
                go_wp2_with fail
                exact ⟨⟨i + 1, by simp, by omega, by omega, HPS.out, hbs⟩, by simp [intOf]; omega⟩
              · have hlt3' : ¬ (i : Int) < (P.length : Int) := by omega
                obtain rfl : i = P.length := by omega
                obtain ⟨w5, hw5⟩ : ∃ w5, w5 = wr := ⟨_, rfl⟩
                subst hw5
                go_wp2_with fail
                refine Calls.mono (HNW.out _ hbr6) ?_
                rintro e w6 ⟨v6, rfl, ho6, hb6⟩
                obtain ⟨ad6, cap6, rfl⟩ := owns_slice ho6
                have hbn6 := hbr6.trans (hb6.mono hbr6.size)
                have HO6 : Hid (∀ o, (w6.alloc o).ownsRow w5.heap.size 28 5 (.slice ad6 P.length cap6) P.length (ndCs P)) := fun o => NdOwn.below ho6 (below_new _ _)
                have hs6 : w5.heap.size ≤ w6.heap.size := hb6.size
                clear ho6
                go_wp2_with (at_builtin; refine wpList_append_own_at _ rfl _ _ 25 rfl w5.heap.size 28 i8 _ 5 48 Tryd.underlying25 hi8 hy0 hy1 hy2 rfl (by decide) _ _ _ rfl (HO6.out _) ⟨w6.heap.size, 0, none⟩ 1 1 [.int .i64 0, .int .i64 0, .int .i64 0, .int .i64 0, .string ⟨#[]⟩] rfl rfl (cells_new w6 _ 28) (by simp [Value.oneCell']) (by have := maxLen_big; omega) (by omega) (Nat.le_trans hs6 (below_new _ _).size) ?_; intro v7 w7 hown7 hgrow7 _ _)
                obtain ⟨ad7, cap7, rfl⟩ := owns_slice hown7
                have hb7 : Below w5.heap.size w5 w7 := grown_own (Nat.le_trans hs6 (below_new _ _).size) (hb6.alloc hb6.size _) (HO6.out _) hgrow7
                have hbn7 := hbr6.trans (hb7.mono hbr6.size)
                clear hown7 hgrow7
                go_loopw [19] (fun v19 wr => ∃ i : Nat, v19 = .int .i64 i ∧ i ≤ K.length ∧ Below wn.heap.size wn wr) (fun v19 _ => K.length - (intOf v19).toNat)
                case atStart => exact ⟨0, rfl, by omega, hbn7⟩
                case round =>
                  obtain ⟨i, rfl, hi4, hbr8⟩ := hrel
                  have hbw8 := hbw.trans (hbr8.mono hbw.size)
                  by_cases hlt4 : i < K.length
                  · have hlt4' : (i : Int) < (K.length : Int) := by omega
                    obtain ⟨⟨pv, X⟩, hp⟩ : ∃ p, K[i]? = some p := ⟨_, List.getElem?_eq_getElem hlt4⟩
                    obtain ⟨gk, ok, capk, hv, hg, hc, hN⟩ := (HKW.out _ hbw8).at hp
                    cases hv
                    simp only at hc hN
                    obtain ⟨adx, capx, rfl⟩ := hN.form
                    obtain ⟨ov, hov⟩ : ∃ ov, O[i]? = some (ov, X) := by
                      have h1 : (O.map Prod.snd)[i]? = some X := by rw [HL.out.1, List.getElem?_map, hp]; rfl
                      rw [List.getElem?_map] at h1
                      cases hO : O[i]? with
                      | none => rw [hO] at h1; cases h1
                      | some q =>
                        rw [hO] at h1
                        obtain ⟨q1, q2⟩ := q
                        simp only [Option.map_some, Option.some.injEq] at h1
                        subst h1
                        exact ⟨q1, rfl⟩
                    have hOK : OwnK wr w1.heap.size (.slice ado K.length capo) O := HOO.out.1.below hbr8
                    obtain ⟨go, oo, capo', hvo, hgo, hco, _⟩ := hOK.at.at hov
                    obtain ⟨gh, ch, hoveq, hch, hcell⟩ := (hOK.2 _ (List.mem_of_getElem? hov)).hid
                    have hNo : NdAt wr ov X := (hOK.2 _ (List.mem_of_getElem? hov)).at
                    simp only at hoveq hco hch hcell
                    subst hoveq
                    clear hOK hov
                    have hvo' : Value.slice ado K.length capo = .slice (some ⟨go, oo, none⟩) K.length capo' := by rw [hvo, HOO.out.2]
                    obtain ⟨rfl, rfl⟩ : ado = some ⟨go, oo, none⟩ ∧ capo = capo' := by
                      cases hvo'
                      exact ⟨rfl, rfl⟩
                    clear hvo hvo'
                    have hlh := World.block_lt_of_cell? wr _ hcell
                    have HS : Hid (∀ W', Below wr.heap.size wr W' → ToldD go oo gk (ok + i) i (.slice (some ⟨gh, 0, none⟩) X.length ch) (.slice adx X.length capx) gh X.length W') := fun W' hb => ⟨(hb.cell (p := ⟨go, oo + i, none⟩) hgo).trans hco, (hb.cell (p := ⟨gk, ok + i, none⟩) hg).trans hc, (hb.cell (p := ⟨gh, X.length * 5, none⟩) hlh).trans hcell⟩
                    have hx8 : X.length ≤ 800 := by
                      have h1 := flat_le2 K _ X hp
                      omega
                    have HSM : Hid (∀ W', Below wr.heap.size wr W' → Calls Tryd.prog 12 #[.slice (some ⟨gh, 0, none⟩) X.length ch, .slice adx X.length capx] W' fun e w' => e = .returned (.bool true) ∧ Below W'.heap.size W' w') := fun W' hb => by
                      have := sameNodes_any (.slice (some ⟨gh, 0, none⟩) X.length ch) (.slice adx X.length capx) X X W' (hNo.below hb (Nat.le_refl _)) (hN.below hb (Nat.le_refl _)) (by omega)
                      rw [sameNs_true rfl] at this
                      exact this
                    clear hN hNo hp hc hco hcell
                    go_upto_region 34 with fail
                    go_cut [220] from 189 to 220 (fun v220 wx => v220 = .bool false ∧ Below wr.heap.size wr wx)
                    case first => as_aux_lemma =>
                      refine wp_region_held (S := ToldD go oo gk (ok + i) i (.slice (some ⟨gh, 0, none⟩) X.length ch) (.slice adx X.length capx) gh X.length) (by kernel_rfl) ?_
                      change wpAnyH _ _ _ _ _ _ _ _ (World.drew _)
                      have hbd : Below wr.heap.size wr (World.drew wr) := ⟨rfl, rfl, rfl, Nat.le_refl _, fun _ _ => rfl⟩
                      have hS0 := HS.out _ hbd
                      refine wpAnyH_take (i := 0) (v := .slice (some ⟨go, oo, none⟩) K.length capo) rfl (by kernel_rfl) (by kernel_rfl) (by kernel_rfl) (fun _ _ _ h => h) (Yields.yieldsIf (Or.inl ⟨by rfl, by intro wz; go_simp⟩)) hS0 ?_
                      try simp only [Act.put, List.getElem_toArray, List.getElem_cons_zero, List.setIfInBounds_toArray, List.set_cons_zero, List.set_cons_succ]
                      refine wpAnyH_take (i := 1) (v := .int .i64 (i : Nat)) rfl (by kernel_rfl) (by kernel_rfl) (by kernel_rfl) (fun _ _ _ h => h) (Yields.yieldsIf (Or.inl ⟨by rfl, by intro wz; go_simp⟩)) hS0 ?_
                      try simp only [Act.put, List.getElem_toArray, List.getElem_cons_succ, List.getElem_cons_zero, List.setIfInBounds_toArray, List.set_cons_zero, List.set_cons_succ]
                      refine wpAnyH_take (i := 2) (v := .pointer (some ⟨go, oo + i, none⟩)) rfl (by kernel_rfl) (by kernel_rfl) (by kernel_rfl) (fun _ _ _ h => h) (Yields.yieldsIf (Or.inl ⟨by rfl, by intro wz; go_simp⟩)) hS0 ?_
                      try simp only [Act.put, List.getElem_toArray, List.getElem_cons_succ, List.getElem_cons_zero, List.setIfInBounds_toArray, List.set_cons_zero, List.set_cons_succ]
                      refine wpAnyH_take (i := 3) (v := .slice (some ⟨gh, 0, none⟩) X.length ch) rfl (by kernel_rfl) (by kernel_rfl) (by kernel_rfl) (fun _ _ _ h => h) (Or.inl ⟨by rfl, fun wz hS => by obtain ⟨s1, s2, s3⟩ := hS; go_simp⟩) hS0 ?_
                      try simp only [Act.put, List.getElem_toArray, List.getElem_cons_succ, List.getElem_cons_zero, List.setIfInBounds_toArray, List.set_cons_zero, List.set_cons_succ]
                      refine wpAnyH_take (i := 4) (v := .slice (some ⟨gk, ok, none⟩) K.length capv) rfl (by kernel_rfl) (by kernel_rfl) (by kernel_rfl) (fun _ _ _ h => h) (Yields.yieldsIf (Or.inl ⟨by rfl, by intro wz; go_simp⟩)) hS0 ?_
                      try simp only [Act.put, List.getElem_toArray, List.getElem_cons_succ, List.getElem_cons_zero, List.setIfInBounds_toArray, List.set_cons_zero, List.set_cons_succ]
                      refine wpAnyH_take (i := 5) (v := .int .i64 (i : Nat)) rfl (by kernel_rfl) (by kernel_rfl) (by kernel_rfl) (fun _ _ _ h => h) (Yields.yieldsIf (Or.inl ⟨by rfl, by intro wz; go_simp⟩)) hS0 ?_
                      try simp only [Act.put, List.getElem_toArray, List.getElem_cons_succ, List.getElem_cons_zero, List.setIfInBounds_toArray, List.set_cons_zero, List.set_cons_succ]
                      refine wpAnyH_take (i := 6) (v := .pointer (some ⟨gk, ok + i, none⟩)) rfl (by kernel_rfl) (by kernel_rfl) (by kernel_rfl) (fun _ _ _ h => h) (Yields.yieldsIf (Or.inl ⟨by rfl, by intro wz; go_simp⟩)) hS0 ?_
                      try simp only [Act.put, List.getElem_toArray, List.getElem_cons_succ, List.getElem_cons_zero, List.setIfInBounds_toArray, List.set_cons_zero, List.set_cons_succ]
                      refine wpAnyH_take (i := 7) (v := .slice adx X.length capx) rfl (by kernel_rfl) (by kernel_rfl) (by kernel_rfl) (fun _ _ _ h => h) (Or.inl ⟨by rfl, fun wz hS => by obtain ⟨s1, s2, s3⟩ := hS; go_simp⟩) hS0 ?_
                      try simp only [Act.put, List.getElem_toArray, List.getElem_cons_succ, List.getElem_cons_zero, List.setIfInBounds_toArray, List.set_cons_zero, List.set_cons_succ]
                      refine wpAnyH_ready (rs := [8]) (by kernel_rfl) (by simp) ?_
                      refine AllReadyH.cons rfl (fun K' hK => ?_) AllReadyH.nil
                      go_simp
                      refine Calls.mono (HSM.out _ hbd) ?_
                      rintro e w2 ⟨rfl, hb2'⟩
                      have hb2 := hbd.trans (hb2'.mono hbd.size)
                      refine hK.out _ _ (HS.out _ hb2) (fun hS2 => ?_)
                      clear hK K'
                      try simp only [Act.put, List.getElem_toArray, List.getElem_cons_succ, List.getElem_cons_zero, List.setIfInBounds_toArray, List.set_cons_zero, List.set_cons_succ]
                      refine wpAnyH_take (i := 9) (v := .bool false) rfl (by kernel_rfl) (by kernel_rfl) (by kernel_rfl) (fun _ _ _ h => h) (Yields.yieldsIf (Or.inl ⟨by rfl, by intro wz; go_simp⟩)) hS2 ?_
                      try simp only [Act.put, List.getElem_toArray, List.getElem_cons_succ, List.getElem_cons_zero, List.setIfInBounds_toArray, List.set_cons_zero, List.set_cons_succ]
                      refine wpAnyH_take (i := 10) (v := .bool false) rfl (by kernel_rfl) (by kernel_rfl) (by kernel_rfl) (fun _ _ _ h => h) (Yields.yieldsIf (Or.inl ⟨by rfl, by intro wz; go_simp⟩)) hS2 ?_
                      try simp only [Act.put, List.getElem_toArray, List.getElem_cons_succ, List.getElem_cons_zero, List.setIfInBounds_toArray, List.set_cons_zero, List.set_cons_succ]
                      refine wpAnyH_take (i := 11) (v := .slice (some ⟨go, oo, none⟩) K.length capo) rfl (by kernel_rfl) (by kernel_rfl) (by kernel_rfl) (fun _ _ _ h => h) (Yields.yieldsIf (Or.inl ⟨by rfl, by intro wz; go_simp⟩)) hS2 ?_
                      try simp only [Act.put, List.getElem_toArray, List.getElem_cons_succ, List.getElem_cons_zero, List.setIfInBounds_toArray, List.set_cons_zero, List.set_cons_succ]
                      refine wpAnyH_take (i := 12) (v := .int .i64 (i : Nat)) rfl (by kernel_rfl) (by kernel_rfl) (by kernel_rfl) (fun _ _ _ h => h) (Yields.yieldsIf (Or.inl ⟨by rfl, by intro wz; go_simp⟩)) hS2 ?_
                      try simp only [Act.put, List.getElem_toArray, List.getElem_cons_succ, List.getElem_cons_zero, List.setIfInBounds_toArray, List.set_cons_zero, List.set_cons_succ]
                      refine wpAnyH_take (i := 13) (v := .pointer (some ⟨go, oo + i, none⟩)) rfl (by kernel_rfl) (by kernel_rfl) (by kernel_rfl) (fun _ _ _ h => h) (Yields.yieldsIf (Or.inl ⟨by rfl, by intro wz; go_simp⟩)) hS2 ?_
                      try simp only [Act.put, List.getElem_toArray, List.getElem_cons_succ, List.getElem_cons_zero, List.setIfInBounds_toArray, List.set_cons_zero, List.set_cons_succ]
                      refine wpAnyH_take (i := 14) (v := .slice (some ⟨gh, 0, none⟩) X.length ch) rfl (by kernel_rfl) (by kernel_rfl) (by kernel_rfl) (fun _ _ _ h => h) (Or.inl ⟨by rfl, fun wz hS => by obtain ⟨s1, s2, s3⟩ := hS; go_simp⟩) hS2 ?_
                      try simp only [Act.put, List.getElem_toArray, List.getElem_cons_succ, List.getElem_cons_zero, List.setIfInBounds_toArray, List.set_cons_zero, List.set_cons_succ]
                      refine wpAnyH_take (i := 15) (v := .slice (some ⟨go, oo, none⟩) K.length capo) rfl (by kernel_rfl) (by kernel_rfl) (by kernel_rfl) (fun _ _ _ h => h) (Yields.yieldsIf (Or.inl ⟨by rfl, by intro wz; go_simp⟩)) hS2 ?_
                      try simp only [Act.put, List.getElem_toArray, List.getElem_cons_succ, List.getElem_cons_zero, List.setIfInBounds_toArray, List.set_cons_zero, List.set_cons_succ]
                      refine wpAnyH_take (i := 16) (v := .int .i64 (i : Nat)) rfl (by kernel_rfl) (by kernel_rfl) (by kernel_rfl) (fun _ _ _ h => h) (Yields.yieldsIf (Or.inl ⟨by rfl, by intro wz; go_simp⟩)) hS2 ?_
                      try simp only [Act.put, List.getElem_toArray, List.getElem_cons_succ, List.getElem_cons_zero, List.setIfInBounds_toArray, List.set_cons_zero, List.set_cons_succ]
                      refine wpAnyH_take (i := 17) (v := .pointer (some ⟨go, oo + i, none⟩)) rfl (by kernel_rfl) (by kernel_rfl) (by kernel_rfl) (fun _ _ _ h => h) (Yields.yieldsIf (Or.inl ⟨by rfl, by intro wz; go_simp⟩)) hS2 ?_
                      try simp only [Act.put, List.getElem_toArray, List.getElem_cons_succ, List.getElem_cons_zero, List.setIfInBounds_toArray, List.set_cons_zero, List.set_cons_succ]
                      refine wpAnyH_take (i := 18) (v := .slice (some ⟨gh, 0, none⟩) X.length ch) rfl (by kernel_rfl) (by kernel_rfl) (by kernel_rfl) (fun _ _ _ h => h) (Or.inl ⟨by rfl, fun wz hS => by obtain ⟨s1, s2, s3⟩ := hS; go_simp⟩) hS2 ?_
                      try simp only [Act.put, List.getElem_toArray, List.getElem_cons_succ, List.getElem_cons_zero, List.setIfInBounds_toArray, List.set_cons_zero, List.set_cons_succ]
                      refine wpAnyH_take (i := 19) (v := .int .i64 (X.length : Nat)) rfl (by kernel_rfl) (by kernel_rfl) (by kernel_rfl) (fun _ _ _ h => h) (Yields.yieldsIf (Or.inl ⟨by rfl, by intro wz; go_simp⟩)) hS2 ?_
                      try simp only [Act.put, List.getElem_toArray, List.getElem_cons_succ, List.getElem_cons_zero, List.setIfInBounds_toArray, List.set_cons_zero, List.set_cons_succ]
                      refine wpAnyH_take (i := 20) (v := .int .i64 ((X.length : Nat) + 1 : Int)) rfl (by kernel_rfl) (by kernel_rfl) (by kernel_rfl) (fun _ _ _ h => h) (Yields.yieldsIf (Or.inl ⟨by rfl, by intro wz; go_simp; try (rw [IntKind.wrap_i64]; omega)⟩)) hS2 ?_
                      try simp only [Act.put, List.getElem_toArray, List.getElem_cons_succ, List.getElem_cons_zero, List.setIfInBounds_toArray, List.set_cons_zero, List.set_cons_succ]
                      refine wpAnyH_take (i := 21) (v := .slice (some ⟨gh, 0, none⟩) (X.length + 1) ch) rfl (by kernel_rfl) (by kernel_rfl) (by kernel_rfl) (fun _ _ _ h => h) (Yields.yieldsIf (Or.inl ⟨by rfl, by intro wz; go_simp; first | done | (intro hh; omega)⟩)) hS2 ?_
                      try simp only [Act.put, List.getElem_toArray, List.getElem_cons_succ, List.getElem_cons_zero, List.setIfInBounds_toArray, List.set_cons_zero, List.set_cons_succ]
                      refine wpAnyH_take (i := 22) (v := .slice (some ⟨go, oo, none⟩) K.length capo) rfl (by kernel_rfl) (by kernel_rfl) (by kernel_rfl) (fun _ _ _ h => h) (Yields.yieldsIf (Or.inl ⟨by rfl, by intro wz; go_simp⟩)) hS2 ?_
                      try simp only [Act.put, List.getElem_toArray, List.getElem_cons_succ, List.getElem_cons_zero, List.setIfInBounds_toArray, List.set_cons_zero, List.set_cons_succ]
                      refine wpAnyH_take (i := 23) (v := .int .i64 (i : Nat)) rfl (by kernel_rfl) (by kernel_rfl) (by kernel_rfl) (fun _ _ _ h => h) (Yields.yieldsIf (Or.inl ⟨by rfl, by intro wz; go_simp⟩)) hS2 ?_
                      try simp only [Act.put, List.getElem_toArray, List.getElem_cons_succ, List.getElem_cons_zero, List.setIfInBounds_toArray, List.set_cons_zero, List.set_cons_succ]
                      refine wpAnyH_take (i := 24) (v := .pointer (some ⟨go, oo + i, none⟩)) rfl (by kernel_rfl) (by kernel_rfl) (by kernel_rfl) (fun _ _ _ h => h) (Yields.yieldsIf (Or.inl ⟨by rfl, by intro wz; go_simp⟩)) hS2 ?_
                      try simp only [Act.put, List.getElem_toArray, List.getElem_cons_succ, List.getElem_cons_zero, List.setIfInBounds_toArray, List.set_cons_zero, List.set_cons_succ]
                      refine wpAnyH_take (i := 25) (v := .slice (some ⟨gh, 0, none⟩) X.length ch) rfl (by kernel_rfl) (by kernel_rfl) (by kernel_rfl) (fun _ _ _ h => h) (Or.inl ⟨by rfl, fun wz hS => by obtain ⟨s1, s2, s3⟩ := hS; go_simp⟩) hS2 ?_
                      try simp only [Act.put, List.getElem_toArray, List.getElem_cons_succ, List.getElem_cons_zero, List.setIfInBounds_toArray, List.set_cons_zero, List.set_cons_succ]
                      refine wpAnyH_take (i := 26) (v := .int .i64 (X.length : Nat)) rfl (by kernel_rfl) (by kernel_rfl) (by kernel_rfl) (fun _ _ _ h => h) (Yields.yieldsIf (Or.inl ⟨by rfl, by intro wz; go_simp⟩)) hS2 ?_
                      try simp only [Act.put, List.getElem_toArray, List.getElem_cons_succ, List.getElem_cons_zero, List.setIfInBounds_toArray, List.set_cons_zero, List.set_cons_succ]
                      refine wpAnyH_take (i := 27) (v := .pointer (some ⟨gh, X.length * 5, none⟩)) rfl (by kernel_rfl) (by kernel_rfl) (by kernel_rfl) (fun _ _ _ h => h) (Yields.yieldsIf (Or.inl ⟨by rfl, by intro wz; go_simp; first | done | omega⟩)) hS2 ?_
                      try simp only [Act.put, List.getElem_toArray, List.getElem_cons_succ, List.getElem_cons_zero, List.setIfInBounds_toArray, List.set_cons_zero, List.set_cons_succ]
                      refine wpAnyH_take (i := 28) (v := .pointer (some ⟨gh, X.length * 5, none⟩)) rfl (by kernel_rfl) (by kernel_rfl) (by kernel_rfl) (fun _ _ _ h => h) (Yields.yieldsIf (Or.inl ⟨by rfl, by intro wz; go_simp⟩)) hS2 ?_
                      try simp only [Act.put, List.getElem_toArray, List.getElem_cons_succ, List.getElem_cons_zero, List.setIfInBounds_toArray, List.set_cons_zero, List.set_cons_succ]
                      refine wpAnyH_take (i := 29) (v := .int .i64 (-7)) rfl (by kernel_rfl) (by kernel_rfl) (by kernel_rfl) (fun _ _ _ h => h) (Or.inl ⟨by rfl, fun wz hS => by obtain ⟨s1, s2, s3⟩ := hS; go_simp⟩) hS2 ?_
                      try simp only [Act.put, List.getElem_toArray, List.getElem_cons_succ, List.getElem_cons_zero, List.setIfInBounds_toArray, List.set_cons_zero, List.set_cons_succ]
                      refine wpAnyH_take (i := 30) (v := .bool false) rfl (by kernel_rfl) (by kernel_rfl) (by kernel_rfl) (fun _ _ _ h => h) (Yields.yieldsIf (Or.inl ⟨by rfl, by intro wz; go_simp⟩)) hS2 ?_
                      try simp only [Act.put, List.getElem_toArray, List.getElem_cons_succ, List.getElem_cons_zero, List.setIfInBounds_toArray, List.set_cons_zero, List.set_cons_succ]
                      refine wpAnyH_take (i := 31) (v := .bool false) rfl (by kernel_rfl) (by kernel_rfl) (by kernel_rfl) (fun _ _ _ h => h) (Yields.yieldsIf (Or.inl ⟨by rfl, by intro wz; go_simp⟩)) hS2 ?_
                      try simp only [Act.put, List.getElem_toArray, List.getElem_cons_succ, List.getElem_cons_zero, List.setIfInBounds_toArray, List.set_cons_zero, List.set_cons_succ]
                      refine wpAnyH_done (by kernel_rfl) ?_ _
                      go_wp2_with fail
                      go_meet
                      case rel => exact ⟨rfl, hb2⟩
                    case rest =>
                      obtain ⟨rfl, hbx8⟩ := hcut
                      go_wp2_with fail
                      exact ⟨⟨i + 1, by simp, by omega, hbr8.trans (hbx8.mono hbr8.size)⟩, by simp [intOf]; omega⟩
                  · have hlt4' : ¬ (i : Int) < (K.length : Int) := by omega
                    obtain ⟨w8, hw8⟩ : ∃ w8, w8 = wr := ⟨_, rfl⟩
                    subst hw8
                    have HSQ : Hid (Calls Tryd.prog 15 #[.slice adv K.length capv] w8 fun e w' => ∃ v', e = .returned v' ∧ NdAt w' v' (seqL (K.map Prod.snd)) ∧ Below w8.heap.size w8 w') := seq_all _ K w8 (HKW.out _ hbw8) (by omega) (by omega)
                    have HRS : Hid (∀ W', Below w8.heap.size w8 W' → Calls Tryd.prog 16 #[.slice adv K.length capv] W' fun e w' => ∃ v', e = .returned v' ∧ NdAt w' v' (seqL (K.map Prod.snd)) ∧ Below W'.heap.size W' w') := fun W' hb => refSeq_all _ K W' (HKW.out _ (hbw8.trans (hb.mono hbw8.size))) (by omega) (by omega)
                    have hsq : (seqL (K.map Prod.snd)).length < 140737488355328 := by
                      have := seqL_len K
                      omega
                    go_wp2_with fail
                    refine Calls.mono HSQ.out ?_
                    rintro e w9 ⟨v9, rfl, hn9, hb9⟩
                    have hbw9 := hbw8.trans (hb9.mono hbw8.size)
                    obtain ⟨ad9, cap9, hv9⟩ := hn9.form
                    subst hv9
                    have HN9 : Hid (NdAt w9 (.slice ad9 (seqL (K.map Prod.snd)).length cap9) (seqL (K.map Prod.snd))) := hn9
                    clear hn9 HSQ
                    go_wp2_with fail
                    refine Calls.mono (HRS.out _ hb9) ?_
                    rintro e w10 ⟨v10, rfl, hn10, hb10⟩
                    have hbw10 := hbw9.trans (hb10.mono hbw9.size)
                    have HSM : Hid (Calls Tryd.prog 12 #[.slice ad9 (seqL (K.map Prod.snd)).length cap9, v10] w10 fun e w' => e = .returned (.bool true) ∧ Below w10.heap.size w10 w') := by
                      have := sameNodes_any _ v10 _ _ w10 (HN9.out.below hb10 (Nat.le_refl _)) hn10 hsq
                      rw [sameNs_true rfl] at this
                      exact this
                    obtain ⟨ad10, cap10, hv10⟩ := hn10.form
                    subst hv10
                    clear hn10 HRS
                    go_wp2_with fail
                    refine Calls.mono HSM.out ?_
                    rintro e w11 ⟨rfl, hb11⟩
                    have hbw11 := hbw10.trans (hb11.mono hbw10.size)
                    go_wp2_with fail
                    go_ret
                    exact ⟨rfl, hbw11⟩
end Go.Proofs.YtgabodcbhjcmiaaDoor
