/- The document's store is told: Set. -/
import Derived.Test.YtikogljojnapaaaRef3
import Derived.OrdersHeld
import Derived.Deep.RegionHeld
import Derived.Deep.Cut
namespace Go.Proofs.Ytikogljojnapaaa
open Go.RowKit

variable {W W' : World} {K K' S : Nat → Prop} {xb : Nat} {vv av fv : Value} {P : Vrs} {A : List Txt} {Q : Fns}
theorem owns_form {w : World} {B e k n : Nat} {v : Value} {xs : List Value} (h : w.ownsRow B e k v n xs) : ∃ ad m cap, v = .slice ad m cap := by
  obtain ⟨ad, cap, rfl⟩ := owns_slice h
  exact ⟨ad, n, cap, rfl⟩
theorem Rs.noStr (h : Rs W K xb vv av fv P A Q) {j : Nat} {u : Value} (hc : W.cell? ⟨xb, j, none⟩ = some u) : ∃ ad n c, u = .slice ad n c := by
  rw [h.xc.cell j] at hc
  obtain ⟨a1, c1, rfl⟩ := owns_slice h.vr
  obtain ⟨a2, c2, rfl⟩ := owns_slice h.ar.1
  obtain ⟨a3, c3, rfl⟩ := owns_slice h.fr
  match j, hc with
  | 0, hc => exact ⟨_, _, _, by simpa using hc.symm⟩
  | 1, hc => exact ⟨_, _, _, by simpa using hc.symm⟩
  | 2, hc => exact ⟨_, _, _, by simpa using hc.symm⟩
  | j + 3, hc => simp at hc
theorem Tx.turnx {v : Value} {ps : List Txt} (h : Tx W v ps) (hR : Rs W K xb vv av fv P A Q) (hT : Turn (fun i => i = xb) W W') : Tx W' v ps := by
  rcases h with h | ⟨ad, cap, h1, h2, h3⟩
  · exact .inl h
  · refine .inr ⟨ad, cap, h1, h2, fun hne => ?_⟩
    obtain ⟨g, o, rfl, h4, h5⟩ := h3 hne
    obtain ⟨p, hp⟩ := mem_iff_some (List.length_pos_iff.2 hne)
    have hg : g ≠ xb := by
      rintro rfl
      obtain ⟨_, _, _, hu⟩ := hR.noStr (h5 0 p hp)
      cases hu
    exact ⟨g, o, rfl, Nat.lt_of_lt_of_le h4 hT.size, fun k p hp => (World.cell?_of_block (w := W) (a := ⟨g, o + k, none⟩) (hT.block g h4 hg)).trans (h5 k p hp)⟩
theorem NdAt.turnx {v : Value} {X : List Nd} (h : NdAt W v X) (hR : Rs W K xb vv av fv P A Q) (hT : Turn (fun i => i = xb) W W') : NdAt W' v X := by
  rcases h with h | ⟨g, o, cap, h1, h2, h3, h4⟩
  · exact .inl h
  · by_cases hX : X = []
    · subst hX
      exact .inl ⟨rfl, .inr ⟨_, cap, h1⟩⟩
    · obtain ⟨x, hx⟩ := mem_iff_some (List.length_pos_iff.2 hX)
      have hg : g ≠ xb := by
        rintro rfl
        obtain ⟨_, _, _, hu⟩ := hR.noStr (h4 0 (ndC x) (by rw [List.getElem?_map, hx]; rfl) 0 _ rfl)
        cases hu
      exact .inr ⟨g, o, cap, h1, h2, Nat.lt_of_lt_of_le h3 hT.size, fun j cs hj i u hu => (World.cell?_of_block (w := W) (a := ⟨g, o + j * 5 + i, none⟩) (hT.block g h3 hg)).trans (h4 j cs hj i u hu)⟩
def setRP (P : Vrs) (k : Txt) (d : Value × List Txt) : Vrs := if k = star then P else putM P k d
def setRA (A : List Txt) (k : Txt) (l : List Txt) : List Txt := if k = star then l else A
/-- The cell says this. -/
def Told1 (xb j : Nat) (v : Value) (W : World) : Prop := Hid (W.cell? ⟨xb, j, none⟩ = some v)
/-- All that is owed at the end. -/
theorem rset_fin {w1 w3 w4 w6 : World} {K1 : Nat → Prop} {vv1 v6 nv : Value} {P1 : Vrs} {k : Txt} {l : List Txt} {i : Nat} (h1 : Rs w1 K1 xb vv1 av fv P1 A Q) (_hb4 : Below w1.heap.size w1 w4) (hz : w1.heap.size ≤ w3.heap.size) (ho4 : w4.ownsRow w3.heap.size 9 1 nv l.length (txV l)) (hb6 : Below w1.heap.size w1 w6) (hT : ∀ {C e k m : Nat} {u : Value} {xs : List Value}, 34 ≠ e → w4.ownsRow C e k u m xs → w6.ownsRow C e k u m xs)
    (ho6 : w6.ownsRow w1.heap.size 34 2 v6 ((P1.take i ++ [(k, nv, l)]) ++ P1.drop i).length (prCs ((P1.take i ++ [(k, nv, l)]) ++ P1.drop i))) (hi : i ≤ P1.length) (hlo : ∀ j q, j < i → P1[j]? = some q → bytesBefore q.1 k = true) (hhi : ∀ q, P1[i]? = some q → bytesBefore q.1 k = false) (hne : ∀ q ∈ P1, q.1 ≠ k) :
    Rs (w6.setCell ⟨xb, 0, none⟩ v6) (Kn w1 w6 K1) xb v6 av fv (insM (k, nv, l) P1) A Q ∧ Stx xb w1 K1 (w6.setCell ⟨xb, 0, none⟩ v6) (Kn w1 w6 K1) := by
  have e1 : (P1.take i ++ [(k, nv, l)]) ++ P1.drop i = insM (k, nv, l) P1 := by
    rw [insM_split (k, nv, l) P1 i hi hlo (fun q hq => ⟨hhi q hq, hne q (List.mem_of_getElem? hq)⟩), List.append_assoc]
    rfl
  rw [e1] at ho6
  have h6 := h1.below hb6
  refine ⟨h6.setV (fun _ h => .inl h) (Kn.lt h1.lt hb6.size) (owns_lower ho6 (Nat.zero_le _)) (fun b hb => .inr ⟨(ho6.lt b hb).1, (ho6.lt b hb).2⟩) (fun p hp => ?_), (Turn.ofBelow hb6).trans (turn_set _ _ _ _) (fun _ hi _ => hi), fun i hi => hi.imp id (fun h => h.1), fun _ h => .inl h⟩
  rcases (mem_insM _ _ _).1 hp with rfl | hp
  · have ho := hT (by decide) ho4
    exact ⟨owns_lower ho (Nat.zero_le _), fun b hb => .inr ⟨Nat.le_trans hz (ho.lt b hb).1, (ho.lt b hb).2⟩⟩
  · exact (h6.vt p hp).mono (fun _ h => .inl h)
set_option maxRecDepth 100000 in
set_option maxHeartbeats 4000000 in
theorem rset_any (h : Rs W K xb vv av fv P A Q) (k : Txt) (lv : Value) (l : List Txt) (ht : Tx W lv l) (hl : l.length < 4294967296) (hP : P.length < 60000) :
    Calls Try.prog 9 #[xP xb, str k, lv] W fun e w' => e = .returned (.tuple #[]) ∧ ∃ vv' av' u K', Rs w' K' xb vv' av' fv (setRP P k (u, l)) (setRA A k l) Q ∧ Stx xb W K w' K' := by
  obtain ⟨i0, hi0, hz0, hz1, hz2⟩ := info_parts info34
  have HR : Hid (Rs W K xb vv av fv P A Q) := h
  have HT : Hid (Tx W lv l) := ht
  obtain ⟨adl, capl, rfl⟩ := ht.form
  clear h ht
  by_cases hs : k = star
  · subst hs
    go_enter Try.func9, Try.ntmps9
    go_wp2_with fail
    refine (texts_any _ l W HT.out hl).mono ?_
    rintro e w1 ⟨nv, rfl, ho1, hb1⟩
    have hR1 := HR.out.below hb1
    have c1 : w1.cell? ⟨xb, 1, none⟩ = some av := hR1.xc.cell 1
    have f1 : w1.frozen? ⟨xb, 1, none⟩ = false := hR1.xc.frozen 1
    have HF : Hid (Rs (w1.setCell ⟨xb, 1, none⟩ nv) (Kn W w1 K) xb vv nv fv P l Q) := hR1.setA (fun _ h => .inl h) (Kn.lt HR.out.lt hb1.size) ⟨owns_lower ho1 (Nat.zero_le _), fun b hb => .inr ⟨(ho1.lt b hb).1, (ho1.lt b hb).2⟩⟩
    obtain ⟨adn, capn, rfl⟩ := owns_slice ho1
    clear hR1
    go_wp2_with fail
    refine bodyPost_ret (results_none rfl _ _ _) rfl ?_
    refine ⟨rfl, vv, .slice adn l.length capn, .slice none 0 0, Kn W w1 K, ?_, (Turn.ofBelow hb1).trans (turn_set _ _ _ _) (fun _ hi _ => hi), fun i hi => hi.imp id (fun h => h.1), fun _ h => .inl h⟩
    unfold setRP setRA
    rw [if_pos rfl, if_pos rfl]
    exact HF.out
  · have hb : (k == [42]) = false := by simpa using hs
    have HSN : Hid (¬ k = star) := hs
    clear hs
    go_enter Try.func9, Try.ntmps9
    go_wp2_with fail
    refine (runset_any HR.out k (by omega)).mono ?_
    rintro e w1 ⟨rfl, vv1, av1, K1, h1, hs1⟩
    have HTX : Hid (Tx w1 (.slice adl l.length capl) l) := HT.out.turnx HR.out hs1.1
    unfold unsR unsA at h1
    rw [if_neg HSN.out, if_neg HSN.out] at h1
    have HS1 : Hid (Stx xb W K w1 K1) := hs1
    have hP1 : (delM P k).length < 60000 := Nat.lt_of_le_of_lt (length_delM P k) hP
    have HNE : Hid (∀ q ∈ delM P k, q.1 ≠ k) := fun q hq e => by
      have := (List.mem_filter.1 hq).2
      rw [e] at this
      simp at this
    have HPM : Hid (∀ d, putM P k d = insM (k, d) (delM P k)) := fun d => rfl
    generalize delM P k = P1 at h1 hP1 HNE HPM
    have HR1 : Hid (Rs w1 K1 xb vv1 av1 fv P1 A Q) := h1
    have c0 : w1.cell? ⟨xb, 0, none⟩ = some vv1 := h1.xc.cell 0
    obtain ⟨adv, capv, rfl⟩ := owns_slice h1.vr
    clear h1 hs1
    go_wp2_with fail
    go_loopw [6] (fun v6 wr => ∃ i : Nat, v6 = .int .i64 i ∧ i ≤ P1.length ∧ wr = w1 ∧ Hid (∀ (j : Nat) (q : Txt × Value × List Txt), j < i → P1[j]? = some q → bytesBefore q.1 k = true)) (fun v6 _ => P1.length - (intOf v6).toNat)
    case atStart => exact ⟨0, rfl, Nat.zero_le _, rfl, fun j q hj => absurd hj (Nat.not_lt_zero _)⟩
    case round =>
      obtain ⟨i, rfl, hi, rfl, HI⟩ := hrel
      by_cases hgo : ∃ p, P1[i]? = some p ∧ bytesBefore p.1 k = true
      · obtain ⟨p, hp, hpk⟩ := hgo
        have hil := (List.getElem?_eq_some_iff.1 hp).1
        obtain ⟨g, cap, hv, _, d0, d1⟩ := pr_at HR1.out.vr hp
        cases hv
        have hpk' : Op.bytesLess p.1 k = true := by rw [bl_eq]; exact hpk
        have HI2 : Hid (∀ (j : Nat) (q : Txt × Value × List Txt), j < i + 1 → P1[j]? = some q → bytesBefore q.1 k = true) := fun j q hj hq2 => by
          rcases Nat.lt_or_ge j i with h1 | h1
          · exact HI.out j q h1 hq2
          · rw [show j = i by omega, hp] at hq2
            cases hq2
            exact hpk
        clear hp hpk
        go_wp2_with fail
        exact ⟨⟨i + 1, by simp, by omega, trivial, HI2⟩, by simp [intOf]; omega⟩
      · have HHI : Hid (∀ q, P1[i]? = some q → bytesBefore q.1 k = false) := fun q hq => by
          cases e : bytesBefore q.1 k with
          | false => rfl
          | true => exact absurd ⟨q, hq, e⟩ hgo
        clear hgo
        by_cases hil : i < P1.length
        · obtain ⟨p, hp⟩ := mem_iff_some hil
          obtain ⟨g, cap, hv, _, d0, d1⟩ := pr_at HR1.out.vr hp
          cases hv
          have hpk' : Op.bytesLess p.1 k = false := by rw [bl_eq]; exact HHI.out p hp
          clear hp
          go_upto_region 6 with fail
          clear d0 d1 hpk'
          refine wp_region_held (S := Told1 xb 0 (.slice (some ⟨g, 0, none⟩) P1.length capv)) (by kernel_rfl) ?_
          change wpAnyH _ _ _ _ _ _ _ _ (World.drew _)
          have hS0 : Told1 xb 0 (.slice (some ⟨g, 0, none⟩) P1.length capv) (World.drew wr) := c0
          obtain ⟨xv1, hx1, HX1⟩ := cut_ahead HR1.out.vr i hi (by omega)
          obtain ⟨xv2, hx2, HX2⟩ := cut_behind HR1.out.vr i hi (by omega)
          obtain ⟨w2, hmk, ho2, hg2⟩ := run_make_own (P := Try.prog) wr.drew wr.heap.size 22 34 i0 _ 2 Try.underlying22 hi0 hz0 hz1 .i64 .i64 (P1.length + 1) (by rw [hz2]; omega) (by have := maxLen_big; omega) (Nat.le_refl _)
          rw [show (((P1.length + 1 : Nat)) : Int) = (P1.length : Int) + 1 by omega] at hmk
          have hb2 : Below wr.heap.size wr w2 := ((Below.refl _ wr).drew).grown hg2 (Nat.le_refl _) (fun q e => by cases e)
          have HO2 : Hid (w2.ownsRow wr.heap.size 34 2 (.slice (some ⟨wr.heap.size, 0, none⟩) 0 (P1.length + 1)) 0 []) := ho2
          obtain ⟨O1, HE1⟩ : ∃ O1, Hid (P1.take i = O1) := ⟨_, rfl⟩
          have hO1 : O1.length ≤ i := by rw [← HE1.out, List.length_take]; omega
          have HXX1 : Hid (∀ W', Below wr.heap.size wr W' → SrcAt W' xv1 O1) := fun W' hb => by rw [← HE1.out]; exact HX1 W' (HR1.out.below hb).vr
          have HXX2 : Hid (∀ W', Below wr.heap.size wr W' → SrcAt W' xv2 (P1.drop i)) := fun W' hb => HX2 W' (HR1.out.below hb).vr
          have HRB : Hid (∀ W', Below wr.heap.size wr W' → Rs W' K1 xb (.slice (some ⟨g, 0, none⟩) P1.length capv) av1 fv P1 A Q) := fun W' hb => HR1.out.below hb
          clear HX1 HX2 ho2 hg2
          refine wpAnyH_take (i := 0) (v := xP xb) rfl (by kernel_rfl) (by kernel_rfl) (by kernel_rfl) (fun _ _ _ h => h) (Yields.yieldsIf (Or.inl ⟨by rfl, by intro wz; go_simp⟩)) hS0 ?_
          try simp only [Act.put, List.getElem_toArray, List.getElem_cons_zero, List.setIfInBounds_toArray, List.set_cons_zero, List.set_cons_succ]
          refine wpAnyH_take (i := 1) (v := xP xb) rfl (by kernel_rfl) (by kernel_rfl) (by kernel_rfl) (fun _ _ _ h => h) (Yields.yieldsIf (Or.inl ⟨by rfl, by intro wz; go_simp⟩)) hS0 ?_
          try simp only [Act.put, List.getElem_toArray, List.getElem_cons_succ, List.getElem_cons_zero, List.setIfInBounds_toArray, List.set_cons_zero, List.set_cons_succ]
          refine wpAnyH_take (i := 2) (v := xP xb) rfl (by kernel_rfl) (by kernel_rfl) (by kernel_rfl) (fun _ _ _ h => h) (Yields.yieldsIf (Or.inl ⟨by rfl, by intro wz; go_simp⟩)) hS0 ?_
          try simp only [Act.put, List.getElem_toArray, List.getElem_cons_succ, List.getElem_cons_zero, List.setIfInBounds_toArray, List.set_cons_zero, List.set_cons_succ]
          refine wpAnyH_take (i := 3) (v := .slice (some ⟨g, 0, none⟩) P1.length capv) rfl (by kernel_rfl) (by kernel_rfl) (by kernel_rfl) (fun _ _ _ h => h) (Or.inl ⟨by rfl, fun wz hS => by have s1 := hS.out; go_simp⟩) hS0 ?_
          try simp only [Act.put, List.getElem_toArray, List.getElem_cons_succ, List.getElem_cons_zero, List.setIfInBounds_toArray, List.set_cons_zero, List.set_cons_succ]
          refine wpAnyH_take (i := 4) (v := .int .i64 (P1.length : Nat)) rfl (by kernel_rfl) (by kernel_rfl) (by kernel_rfl) (fun _ _ _ h => h) (Yields.yieldsIf (Or.inl ⟨by rfl, by intro wz; go_simp⟩)) hS0 ?_
          try simp only [Act.put, List.getElem_toArray, List.getElem_cons_succ, List.getElem_cons_zero, List.setIfInBounds_toArray, List.set_cons_zero, List.set_cons_succ]
          refine wpAnyH_take (i := 5) (v := .int .i64 ((P1.length : Int) + 1)) rfl (by kernel_rfl) (by kernel_rfl) (by kernel_rfl) (fun _ _ _ h => h) (Yields.yieldsIf (Or.inl ⟨by rfl, by intro wz; go_simp; rw [IntKind.wrap_i64]; omega⟩)) hS0 ?_
          try simp only [Act.put, List.getElem_toArray, List.getElem_cons_succ, List.getElem_cons_zero, List.setIfInBounds_toArray, List.set_cons_zero, List.set_cons_succ]
          refine wpAnyH_take (i := 7) (v := xP xb) rfl (by kernel_rfl) (by kernel_rfl) (by kernel_rfl) (fun _ _ _ h => h) (Yields.yieldsIf (Or.inl ⟨by rfl, by intro wz; go_simp⟩)) hS0 ?_
          try simp only [Act.put, List.getElem_toArray, List.getElem_cons_succ, List.getElem_cons_zero, List.setIfInBounds_toArray, List.set_cons_zero, List.set_cons_succ]
          refine wpAnyH_take (i := 8) (v := xP xb) rfl (by kernel_rfl) (by kernel_rfl) (by kernel_rfl) (fun _ _ _ h => h) (Yields.yieldsIf (Or.inl ⟨by rfl, by intro wz; go_simp⟩)) hS0 ?_
          try simp only [Act.put, List.getElem_toArray, List.getElem_cons_succ, List.getElem_cons_zero, List.setIfInBounds_toArray, List.set_cons_zero, List.set_cons_succ]
          refine wpAnyH_take (i := 9) (v := xP xb) rfl (by kernel_rfl) (by kernel_rfl) (by kernel_rfl) (fun _ _ _ h => h) (Yields.yieldsIf (Or.inl ⟨by rfl, by intro wz; go_simp⟩)) hS0 ?_
          try simp only [Act.put, List.getElem_toArray, List.getElem_cons_succ, List.getElem_cons_zero, List.setIfInBounds_toArray, List.set_cons_zero, List.set_cons_succ]
          refine wpAnyH_take (i := 10) (v := .slice (some ⟨g, 0, none⟩) P1.length capv) rfl (by kernel_rfl) (by kernel_rfl) (by kernel_rfl) (fun _ _ _ h => h) (Or.inl ⟨by rfl, fun wz hS => by have s1 := hS.out; go_simp⟩) hS0 ?_
          try simp only [Act.put, List.getElem_toArray, List.getElem_cons_succ, List.getElem_cons_zero, List.setIfInBounds_toArray, List.set_cons_zero, List.set_cons_succ]
          refine wpAnyH_take (i := 11) (v := .int .i64 (i : Nat)) rfl (by kernel_rfl) (by kernel_rfl) (by kernel_rfl) (fun _ _ _ h => h) (Yields.yieldsIf (Or.inl ⟨by rfl, by intro wz; go_simp⟩)) hS0 ?_
          try simp only [Act.put, List.getElem_toArray, List.getElem_cons_succ, List.getElem_cons_zero, List.setIfInBounds_toArray, List.set_cons_zero, List.set_cons_succ]
          refine wpAnyH_take (i := 12) (v := xv1) rfl (by kernel_rfl) (by kernel_rfl) (by kernel_rfl) (fun _ _ _ h => h) (Yields.yieldsIf (Or.inl ⟨by rfl, by intro wz; go_simp⟩)) hS0 ?_
          try simp only [Act.put, List.getElem_toArray, List.getElem_cons_succ, List.getElem_cons_zero, List.setIfInBounds_toArray, List.set_cons_zero, List.set_cons_succ]
          refine wpAnyH_ready (rs := [6]) (by kernel_rfl) (by simp) ?_
          refine AllReadyH.cons rfl (fun K' hK => ?_) AllReadyH.nil
          go_simp
          refine hK.out _ _ ((HRB.out _ hb2).xc.cell 0) (fun hS2 => ?_)
          clear hK K'
          try simp only [Act.put, List.getElem_toArray, List.getElem_cons_succ, List.getElem_cons_zero, List.setIfInBounds_toArray, List.set_cons_zero, List.set_cons_succ]
          refine wpAnyH_ready (rs := [13]) (by kernel_rfl) (by simp) ?_
          refine AllReadyH.cons rfl (fun K' hK => ?_) AllReadyH.nil
          refine step_src (O := []) (L := O1) _ _ rfl rfl rfl HO2.out (HXX1.out _ hb2) (fun p hp => ((HRB.out _ hb2).vt p (by rw [← HE1.out] at hp; exact List.mem_of_mem_take hp)).tx) (by simp only [List.length_nil]; omega) hb2.size ?_
          intro v3 w3 ho3 hg3
          have hb3 : Below wr.heap.size wr w3 := grown_own hb2.size hb2 HO2.out hg3
          have hS3 : Told1 xb 0 (.slice (some ⟨g, 0, none⟩) P1.length capv) w3 := (HRB.out _ hb3).xc.cell 0
          rw [List.nil_append] at ho3
          refine hK.out _ _ hS3 (fun _ => ?_)
          clear hK K'
          try simp only [Act.put, List.getElem_toArray, List.getElem_cons_succ, List.getElem_cons_zero, List.setIfInBounds_toArray, List.set_cons_zero, List.set_cons_succ]
          obtain ⟨ad3, cap3, rfl⟩ := owns_slice ho3
          have HO3 : Hid (w3.ownsRow wr.heap.size 34 2 (.slice ad3 O1.length cap3) O1.length (prCs O1)) := ho3
          clear ho3 hg3 hS0 hS2
          have hS0 := hS3
          refine wpAnyH_take (i := 14) (v := .slice ad3 O1.length cap3) rfl (by kernel_rfl) (by kernel_rfl) (by kernel_rfl) (fun _ _ _ h => h) (Yields.yieldsIf (Or.inl ⟨by rfl, by intro wz; go_simp⟩)) hS0 ?_
          try simp only [Act.put, List.getElem_toArray, List.getElem_cons_succ, List.getElem_cons_zero, List.setIfInBounds_toArray, List.set_cons_zero, List.set_cons_succ]
          refine wpAnyH_done (by kernel_rfl) ?_ _
          clear hS0 hS3 hx1 hmk
          go_wp2_with fail
          refine (texts_any _ l w3 (HTX.out.below hb3 (Nat.le_refl _)) hl).mono ?_
          rintro e w4 ⟨nv, rfl, ho4, hb4'⟩
          have hb4 : Below wr.heap.size wr w4 := hb3.trans (hb4'.mono hb3.size)
          obtain ⟨ad4, cap4, rfl⟩ := owns_slice ho4
          have HO4 : Hid (w4.ownsRow w3.heap.size 9 1 (.slice ad4 l.length cap4) l.length (txV l)) := ho4
          have hbA : Below wr.heap.size wr (w4.alloc (.cells #[str k, .slice ad4 l.length cap4] 34)) := hb4.alloc hb4.size _
          have hoA : (w4.alloc (.cells #[str k, .slice ad4 l.length cap4] 34)).ownsRow wr.heap.size 34 2 (.slice ad3 O1.length cap3) O1.length (prCs O1) := (owns_turn HO3.out (Turn.ofBelow (S := fun _ => False) hb4') (fun _ _ h => h)).alloc _
          have hz3 := hb3.size
          clear ho4 hb4'
          go_wp2_with (first | (at_builtin; refine wpList_append_own_at _ rfl _ _ 22 rfl wr.heap.size 34 i0 _ 2 40 Try.underlying22 hi0 hz0 hz1 hz2 rfl (by decide) _ _ _ rfl hoA ⟨w4.heap.size, 0, none⟩ 1 1 [str k, .slice ad4 l.length cap4] rfl rfl (cells_new w4 _ 34) (vaC_one _ _ _) (by have := maxLen_big; omega) (by omega) hbA.size ?_; intro v5 w5 hown5 hgrow5 _ _; obtain ⟨ad5, cap5, rfl⟩ := owns_slice hown5; have hb5 : Below wr.heap.size wr w5 := grown_own hbA.size hbA hoA hgrow5; have HO5 : Hid (w5.ownsRow wr.heap.size 34 2 (.slice ad5 (O1.length + 1) cap5) (O1 ++ [(k, Value.slice ad4 l.length cap4, l)]).length (prCs (O1 ++ [(k, Value.slice ad4 l.length cap4, l)]))) := (by unfold Hid; rw [prCs_snoc, List.length_append]; exact hown5); have HK5 : Hid (∀ {C e k m : Nat} {u : Value} {xs : List Value}, 34 ≠ e → w4.ownsRow C e k u m xs → w5.ownsRow C e k u m xs) := fun hne ho => owns_turn (ho.alloc (.cells #[str k, .slice ad4 l.length cap4] 34)) (Turn.ofGrown hgrow5) (fun b hb e' => owns_apart2 hoA (ho.alloc _) hne b e' hb); have c5 : w5.cell? ⟨xb, 0, none⟩ = some (.slice (some ⟨g, 0, none⟩) P1.length capv) := (HRB.out _ hb5).xc.cell 0; have hz5 := hb5.size; clear hown5 hgrow5 hoA hbA) | (at_builtin; refine wpList_src rfl _ _ rfl rfl rfl HO5.out (HXX2.out _ hb5) (fun p hp => ((HRB.out _ hb5).vt p (List.mem_of_mem_drop hp)).tx) (by simp only [List.length_append, List.length_drop, List.length_singleton]; omega) hz5 ?_; intro v6 w6 ho6 hg6; obtain ⟨ad6, n6, cap6, rfl⟩ := owns_form ho6; have hb6 : Below wr.heap.size wr w6 := grown_own hb5.size hb5 HO5.out hg6; have c6 : w6.cell? ⟨xb, 0, none⟩ = some (.slice (some ⟨g, 0, none⟩) P1.length capv) := (HRB.out _ hb6).xc.cell 0; have f6 : w6.frozen? ⟨xb, 0, none⟩ = false := (HRB.out _ hb6).xc.frozen 0; have HO6 : Hid _ := ho6; have HG6 : Hid _ := hg6; clear ho6 hg6))
          go_end0
          obtain ⟨q1, q2⟩ := rset_fin HR1.out hb4 hb3.size HO4.out hb6 (fun hne ho => owns_turn (HK5.out hne ho) (Turn.ofGrown HG6.out) (fun b hb e' => owns_apart2 HO5.out (HK5.out hne ho) hne b e' hb)) (by rw [HE1.out]; exact HO6.out) hi HI.out HHI.out HNE.out
          refine ⟨rfl, .slice ad6 n6 cap6, av1, .slice ad4 l.length cap4, Kn wr w6 K1, ?_, HS1.out.trans q2⟩
          unfold setRP setRA
          rw [if_neg HSN.out, if_neg HSN.out, HPM.out]
          exact q1
        · go_upto_region 6 with fail
          refine wp_region_held (S := Told1 xb 0 (.slice adv P1.length capv)) (by kernel_rfl) ?_
          change wpAnyH _ _ _ _ _ _ _ _ (World.drew _)
          have hS0 : Told1 xb 0 (.slice adv P1.length capv) (World.drew wr) := c0
          obtain ⟨xv1, hx1, HX1⟩ := cut_ahead HR1.out.vr i hi (by omega)
          obtain ⟨xv2, hx2, HX2⟩ := cut_behind HR1.out.vr i hi (by omega)
          obtain ⟨w2, hmk, ho2, hg2⟩ := run_make_own (P := Try.prog) wr.drew wr.heap.size 22 34 i0 _ 2 Try.underlying22 hi0 hz0 hz1 .i64 .i64 (P1.length + 1) (by rw [hz2]; omega) (by have := maxLen_big; omega) (Nat.le_refl _)
          rw [show (((P1.length + 1 : Nat)) : Int) = (P1.length : Int) + 1 by omega] at hmk
          have hb2 : Below wr.heap.size wr w2 := ((Below.refl _ wr).drew).grown hg2 (Nat.le_refl _) (fun q e => by cases e)
          have HO2 : Hid (w2.ownsRow wr.heap.size 34 2 (.slice (some ⟨wr.heap.size, 0, none⟩) 0 (P1.length + 1)) 0 []) := ho2
          obtain ⟨O1, HE1⟩ : ∃ O1, Hid (P1.take i = O1) := ⟨_, rfl⟩
          have hO1 : O1.length ≤ i := by rw [← HE1.out, List.length_take]; omega
          have HXX1 : Hid (∀ W', Below wr.heap.size wr W' → SrcAt W' xv1 O1) := fun W' hb => by rw [← HE1.out]; exact HX1 W' (HR1.out.below hb).vr
          have HXX2 : Hid (∀ W', Below wr.heap.size wr W' → SrcAt W' xv2 (P1.drop i)) := fun W' hb => HX2 W' (HR1.out.below hb).vr
          have HRB : Hid (∀ W', Below wr.heap.size wr W' → Rs W' K1 xb (.slice adv P1.length capv) av1 fv P1 A Q) := fun W' hb => HR1.out.below hb
          clear HX1 HX2 ho2 hg2
          refine wpAnyH_take (i := 0) (v := xP xb) rfl (by kernel_rfl) (by kernel_rfl) (by kernel_rfl) (fun _ _ _ h => h) (Yields.yieldsIf (Or.inl ⟨by rfl, by intro wz; go_simp⟩)) hS0 ?_
          try simp only [Act.put, List.getElem_toArray, List.getElem_cons_zero, List.setIfInBounds_toArray, List.set_cons_zero, List.set_cons_succ]
          refine wpAnyH_take (i := 1) (v := xP xb) rfl (by kernel_rfl) (by kernel_rfl) (by kernel_rfl) (fun _ _ _ h => h) (Yields.yieldsIf (Or.inl ⟨by rfl, by intro wz; go_simp⟩)) hS0 ?_
          try simp only [Act.put, List.getElem_toArray, List.getElem_cons_succ, List.getElem_cons_zero, List.setIfInBounds_toArray, List.set_cons_zero, List.set_cons_succ]
          refine wpAnyH_take (i := 2) (v := xP xb) rfl (by kernel_rfl) (by kernel_rfl) (by kernel_rfl) (fun _ _ _ h => h) (Yields.yieldsIf (Or.inl ⟨by rfl, by intro wz; go_simp⟩)) hS0 ?_
          try simp only [Act.put, List.getElem_toArray, List.getElem_cons_succ, List.getElem_cons_zero, List.setIfInBounds_toArray, List.set_cons_zero, List.set_cons_succ]
          refine wpAnyH_take (i := 3) (v := .slice adv P1.length capv) rfl (by kernel_rfl) (by kernel_rfl) (by kernel_rfl) (fun _ _ _ h => h) (Or.inl ⟨by rfl, fun wz hS => by have s1 := hS.out; go_simp⟩) hS0 ?_
          try simp only [Act.put, List.getElem_toArray, List.getElem_cons_succ, List.getElem_cons_zero, List.setIfInBounds_toArray, List.set_cons_zero, List.set_cons_succ]
          refine wpAnyH_take (i := 4) (v := .int .i64 (P1.length : Nat)) rfl (by kernel_rfl) (by kernel_rfl) (by kernel_rfl) (fun _ _ _ h => h) (Yields.yieldsIf (Or.inl ⟨by rfl, by intro wz; go_simp⟩)) hS0 ?_
          try simp only [Act.put, List.getElem_toArray, List.getElem_cons_succ, List.getElem_cons_zero, List.setIfInBounds_toArray, List.set_cons_zero, List.set_cons_succ]
          refine wpAnyH_take (i := 5) (v := .int .i64 ((P1.length : Int) + 1)) rfl (by kernel_rfl) (by kernel_rfl) (by kernel_rfl) (fun _ _ _ h => h) (Yields.yieldsIf (Or.inl ⟨by rfl, by intro wz; go_simp; rw [IntKind.wrap_i64]; omega⟩)) hS0 ?_
          try simp only [Act.put, List.getElem_toArray, List.getElem_cons_succ, List.getElem_cons_zero, List.setIfInBounds_toArray, List.set_cons_zero, List.set_cons_succ]
          refine wpAnyH_take (i := 7) (v := xP xb) rfl (by kernel_rfl) (by kernel_rfl) (by kernel_rfl) (fun _ _ _ h => h) (Yields.yieldsIf (Or.inl ⟨by rfl, by intro wz; go_simp⟩)) hS0 ?_
          try simp only [Act.put, List.getElem_toArray, List.getElem_cons_succ, List.getElem_cons_zero, List.setIfInBounds_toArray, List.set_cons_zero, List.set_cons_succ]
          refine wpAnyH_take (i := 8) (v := xP xb) rfl (by kernel_rfl) (by kernel_rfl) (by kernel_rfl) (fun _ _ _ h => h) (Yields.yieldsIf (Or.inl ⟨by rfl, by intro wz; go_simp⟩)) hS0 ?_
          try simp only [Act.put, List.getElem_toArray, List.getElem_cons_succ, List.getElem_cons_zero, List.setIfInBounds_toArray, List.set_cons_zero, List.set_cons_succ]
          refine wpAnyH_take (i := 9) (v := xP xb) rfl (by kernel_rfl) (by kernel_rfl) (by kernel_rfl) (fun _ _ _ h => h) (Yields.yieldsIf (Or.inl ⟨by rfl, by intro wz; go_simp⟩)) hS0 ?_
          try simp only [Act.put, List.getElem_toArray, List.getElem_cons_succ, List.getElem_cons_zero, List.setIfInBounds_toArray, List.set_cons_zero, List.set_cons_succ]
          refine wpAnyH_take (i := 10) (v := .slice adv P1.length capv) rfl (by kernel_rfl) (by kernel_rfl) (by kernel_rfl) (fun _ _ _ h => h) (Or.inl ⟨by rfl, fun wz hS => by have s1 := hS.out; go_simp⟩) hS0 ?_
          try simp only [Act.put, List.getElem_toArray, List.getElem_cons_succ, List.getElem_cons_zero, List.setIfInBounds_toArray, List.set_cons_zero, List.set_cons_succ]
          refine wpAnyH_take (i := 11) (v := .int .i64 (i : Nat)) rfl (by kernel_rfl) (by kernel_rfl) (by kernel_rfl) (fun _ _ _ h => h) (Yields.yieldsIf (Or.inl ⟨by rfl, by intro wz; go_simp⟩)) hS0 ?_
          try simp only [Act.put, List.getElem_toArray, List.getElem_cons_succ, List.getElem_cons_zero, List.setIfInBounds_toArray, List.set_cons_zero, List.set_cons_succ]
          refine wpAnyH_take (i := 12) (v := xv1) rfl (by kernel_rfl) (by kernel_rfl) (by kernel_rfl) (fun _ _ _ h => h) (Yields.yieldsIf (Or.inl ⟨by rfl, by intro wz; go_simp⟩)) hS0 ?_
          try simp only [Act.put, List.getElem_toArray, List.getElem_cons_succ, List.getElem_cons_zero, List.setIfInBounds_toArray, List.set_cons_zero, List.set_cons_succ]
          refine wpAnyH_ready (rs := [6]) (by kernel_rfl) (by simp) ?_
          refine AllReadyH.cons rfl (fun K' hK => ?_) AllReadyH.nil
          go_simp
          refine hK.out _ _ ((HRB.out _ hb2).xc.cell 0) (fun hS2 => ?_)
          clear hK K'
          try simp only [Act.put, List.getElem_toArray, List.getElem_cons_succ, List.getElem_cons_zero, List.setIfInBounds_toArray, List.set_cons_zero, List.set_cons_succ]
          refine wpAnyH_ready (rs := [13]) (by kernel_rfl) (by simp) ?_
          refine AllReadyH.cons rfl (fun K' hK => ?_) AllReadyH.nil
          refine step_src (O := []) (L := O1) _ _ rfl rfl rfl HO2.out (HXX1.out _ hb2) (fun p hp => ((HRB.out _ hb2).vt p (by rw [← HE1.out] at hp; exact List.mem_of_mem_take hp)).tx) (by simp only [List.length_nil]; omega) hb2.size ?_
          intro v3 w3 ho3 hg3
          have hb3 : Below wr.heap.size wr w3 := grown_own hb2.size hb2 HO2.out hg3
          have hS3 : Told1 xb 0 (.slice adv P1.length capv) w3 := (HRB.out _ hb3).xc.cell 0
          rw [List.nil_append] at ho3
          refine hK.out _ _ hS3 (fun _ => ?_)
          clear hK K'
          try simp only [Act.put, List.getElem_toArray, List.getElem_cons_succ, List.getElem_cons_zero, List.setIfInBounds_toArray, List.set_cons_zero, List.set_cons_succ]
          obtain ⟨ad3, cap3, rfl⟩ := owns_slice ho3
          have HO3 : Hid (w3.ownsRow wr.heap.size 34 2 (.slice ad3 O1.length cap3) O1.length (prCs O1)) := ho3
          clear ho3 hg3 hS0 hS2
          have hS0 := hS3
          refine wpAnyH_take (i := 14) (v := .slice ad3 O1.length cap3) rfl (by kernel_rfl) (by kernel_rfl) (by kernel_rfl) (fun _ _ _ h => h) (Yields.yieldsIf (Or.inl ⟨by rfl, by intro wz; go_simp⟩)) hS0 ?_
          try simp only [Act.put, List.getElem_toArray, List.getElem_cons_succ, List.getElem_cons_zero, List.setIfInBounds_toArray, List.set_cons_zero, List.set_cons_succ]
          refine wpAnyH_done (by kernel_rfl) ?_ _
          clear hS0 hS3 hx1 hmk
          go_wp2_with fail
          refine (texts_any _ l w3 (HTX.out.below hb3 (Nat.le_refl _)) hl).mono ?_
          rintro e w4 ⟨nv, rfl, ho4, hb4'⟩
          have hb4 : Below wr.heap.size wr w4 := hb3.trans (hb4'.mono hb3.size)
          obtain ⟨ad4, cap4, rfl⟩ := owns_slice ho4
          have HO4 : Hid (w4.ownsRow w3.heap.size 9 1 (.slice ad4 l.length cap4) l.length (txV l)) := ho4
          have hbA : Below wr.heap.size wr (w4.alloc (.cells #[str k, .slice ad4 l.length cap4] 34)) := hb4.alloc hb4.size _
          have hoA : (w4.alloc (.cells #[str k, .slice ad4 l.length cap4] 34)).ownsRow wr.heap.size 34 2 (.slice ad3 O1.length cap3) O1.length (prCs O1) := (owns_turn HO3.out (Turn.ofBelow (S := fun _ => False) hb4') (fun _ _ h => h)).alloc _
          have hz3 := hb3.size
          clear ho4 hb4'
          go_wp2_with (first | (at_builtin; refine wpList_append_own_at _ rfl _ _ 22 rfl wr.heap.size 34 i0 _ 2 40 Try.underlying22 hi0 hz0 hz1 hz2 rfl (by decide) _ _ _ rfl hoA ⟨w4.heap.size, 0, none⟩ 1 1 [str k, .slice ad4 l.length cap4] rfl rfl (cells_new w4 _ 34) (vaC_one _ _ _) (by have := maxLen_big; omega) (by omega) hbA.size ?_; intro v5 w5 hown5 hgrow5 _ _; obtain ⟨ad5, cap5, rfl⟩ := owns_slice hown5; have hb5 : Below wr.heap.size wr w5 := grown_own hbA.size hbA hoA hgrow5; have HO5 : Hid (w5.ownsRow wr.heap.size 34 2 (.slice ad5 (O1.length + 1) cap5) (O1 ++ [(k, Value.slice ad4 l.length cap4, l)]).length (prCs (O1 ++ [(k, Value.slice ad4 l.length cap4, l)]))) := (by unfold Hid; rw [prCs_snoc, List.length_append]; exact hown5); have HK5 : Hid (∀ {C e k m : Nat} {u : Value} {xs : List Value}, 34 ≠ e → w4.ownsRow C e k u m xs → w5.ownsRow C e k u m xs) := fun hne ho => owns_turn (ho.alloc (.cells #[str k, .slice ad4 l.length cap4] 34)) (Turn.ofGrown hgrow5) (fun b hb e' => owns_apart2 hoA (ho.alloc _) hne b e' hb); have c5 : w5.cell? ⟨xb, 0, none⟩ = some (.slice adv P1.length capv) := (HRB.out _ hb5).xc.cell 0; have hz5 := hb5.size; clear hown5 hgrow5 hoA hbA) | (at_builtin; refine wpList_src rfl _ _ rfl rfl rfl HO5.out (HXX2.out _ hb5) (fun p hp => ((HRB.out _ hb5).vt p (List.mem_of_mem_drop hp)).tx) (by simp only [List.length_append, List.length_drop, List.length_singleton]; omega) hz5 ?_; intro v6 w6 ho6 hg6; obtain ⟨ad6, n6, cap6, rfl⟩ := owns_form ho6; have hb6 : Below wr.heap.size wr w6 := grown_own hb5.size hb5 HO5.out hg6; have c6 : w6.cell? ⟨xb, 0, none⟩ = some (.slice adv P1.length capv) := (HRB.out _ hb6).xc.cell 0; have f6 : w6.frozen? ⟨xb, 0, none⟩ = false := (HRB.out _ hb6).xc.frozen 0; have HO6 : Hid _ := ho6; have HG6 : Hid _ := hg6; clear ho6 hg6))
          go_end0
          obtain ⟨q1, q2⟩ := rset_fin HR1.out hb4 hb3.size HO4.out hb6 (fun hne ho => owns_turn (HK5.out hne ho) (Turn.ofGrown HG6.out) (fun b hb e' => owns_apart2 HO5.out (HK5.out hne ho) hne b e' hb)) (by rw [HE1.out]; exact HO6.out) hi HI.out HHI.out HNE.out
          refine ⟨rfl, .slice ad6 n6 cap6, av1, .slice ad4 l.length cap4, Kn wr w6 K1, ?_, HS1.out.trans q2⟩
          unfold setRP setRA
          rw [if_neg HSN.out, if_neg HSN.out, HPM.out]
          exact q1
end Go.Proofs.Ytikogljojnapaaa
