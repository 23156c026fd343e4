/- The document's own look at programs: a node whose child does not fit. -/
import Derived.Test.YtgabodcbhjcmiaaDoorRef1
import Derived.Test.YtgabodcbhjcmiaaDoorTree
import Derived.OrdersHeld
import Derived.Deep.RegionHeld
import Derived.Deep.Cut
namespace Go.Proofs.YtgabodcbhjcmiaaDoor
open Go.RowKit
attribute [local go_sem] Oper.semAt_some

/-- A fault of this code is answered. -/
def FaultIs (e : Ending) (c : Int) : Prop := ∃ ad nn cp, e = .returned (.agg #[.int .i64 c, .slice ad nn cp])
/-- What it means that a node is fine. -/
def LookP (X : List Nd) (at_ most : Nat) (fin : Int) (d : Nat) (c : Int) : Prop := c = 0 → ∃ (m : Nat) (x : Nd), X[at_]? = some x ∧ x.size = m ∧ 1 ≤ m ∧ at_ + m ≤ most ∧ (0 ≤ fin → (at_ : Int) + m = fin) ∧ Seg d ((X.drop at_).take m)
def LookC (v : Value) (X : List Nd) (d : Nat) : Prop := ∀ (at_ most : Nat) (fin : Int) (cmd : Bool) (W : World), NdAt W v X → at_ < most → most ≤ X.length → -1 ≤ fin → fin ≤ X.length →
  Calls Tryd.prog 26 #[v, .int .i64 at_, .int .i64 fin, .int .i64 most, .int .i64 (31 - d : Int), .bool cmd] W fun e w' => ∃ c, FaultIs e c ∧ LookP X at_ most fin d c ∧ Below W.heap.size W w'
/-- So many children, one behind the other, each of which fits. -/
def reachN (X : List Nd) (fin : Nat) : Nat → Nat → Nat → Prop
  | 0, k0, k => k = k0
  | i + 1, k0, k => ∃ k', reachN X fin i k0 k' ∧ ∃ y : Nd, X[k']? = some y ∧ 1 ≤ y.size ∧ (k' : Int) + y.size ≤ fin ∧ (k : Int) = k' + y.size
theorem reach_fun (X : List Nd) (fin k0 : Nat) : ∀ (i a b : Nat), reachN X fin i k0 a → reachN X fin i k0 b → a = b
  | 0, a, b, h1, h2 => h1.trans h2.symm
  | i + 1, a, b, ⟨a', h1, y, hy, _, _, ha⟩, ⟨b', h2, z, hz, _, _, hb⟩ => by
    have := reach_fun X fin k0 i a' b' h1 h2
    subst this
    rw [hy] at hz
    cases hz
    omega
theorem reach_ge (X : List Nd) (fin k0 : Nat) : ∀ (i a : Nat), reachN X fin i k0 a → k0 ≤ a
  | 0, a, h => by rw [show a = k0 from h]; exact Nat.le_refl _
  | i + 1, a, ⟨a', h1, y, _, h2, _, h3⟩ => by have := reach_ge X fin k0 i a' h1; omega
/-- Each of those ahead lies within. -/
theorem reach_lt (X : List Nd) (fin k0 : Nat) : ∀ (b kb : Nat), reachN X fin b k0 kb → kb < fin → ∀ i k, i ≤ b → reachN X fin i k0 k → k < fin
  | 0, kb, h, hlt, i, k, hi, hk => by
    obtain rfl : i = 0 := by omega
    rw [reach_fun X fin k0 0 k kb hk h]
    exact hlt
  | b + 1, kb, h, hlt, i, k, hi, hk => by
    by_cases hb : i = b + 1
    · subst hb
      rw [reach_fun X fin k0 _ k kb hk h]
      exact hlt
    · obtain ⟨k', h1, y, _, h2, h3, _⟩ := h
      exact reach_lt X fin k0 b k' h1 (by omega) i k (by omega) hk
/-- What is told of the node. -/
def ToldL (b : Nat) (kd K sz : Int) (W : World) : Prop := W.cell? ⟨b, 0, none⟩ = some (.int .i64 kd) ∧ W.cell? ⟨b, 2, none⟩ = some (.int .i64 K) ∧ W.cell? ⟨b, 3, none⟩ = some (.int .i64 sz)
theorem fault_ret {W' : World} {b : Nat} {c : Int} {ad : Option Addr} {nn cp : Nat} {u v : Value} (hc : Cel W' b 33 #[u, v]) :
    Cel ((W'.setCell ⟨b, 0, none⟩ (.int .i64 c)).setCell ⟨b, 1, none⟩ (.slice ad nn cp)) b 33 #[.int .i64 c, .slice ad nn cp] := by
  have := (hc.set (j := 0) (.int .i64 c)).set (j := 1) (.slice ad nn cp)
  simpa using this
set_option maxRecDepth 100000 in
set_option maxHeartbeats 4000000 in
theorem early_deep (v : Value) (X : List Nd) (at_ bad : Nat) (W : World) (hN : NdAt W v X) (hat : at_ < X.length) :
    Calls Tryd.prog 40 #[v, .int .i64 at_, .int .i64 31, .int .i64 bad] W fun e w' => ∃ c, FaultIs e c ∧ c ≠ 0 ∧ Below W.heap.size W w' := by
  obtain ⟨x, hx⟩ : ∃ x, X[at_]? = some x := ⟨_, List.getElem?_eq_getElem hat⟩
  have hN1 := hN.below (below_new W (.cells #[.int .i64 0, .slice none 0 0] 33)) (Nat.le_refl _)
  obtain ⟨g, o, cap, hv, hg, c0, c1, c2, c3, c4⟩ := hN1.at hx
  subst hv
  obtain ⟨kd, nn, K, sz, s⟩ := x
  simp only at c0 c1 c2 c3 c4
  clear hN hN1 hx
  go_enter Tryd.func40, Tryd.ntmps40
  go_upto_region 2 with fail
  obtain ⟨w1, hw1⟩ : ∃ w1, w1 = (W.alloc (.cells #[.int .i64 0, .slice none 0 0] 33)).alloc (.cells #[.int .i64 kd, .int .i64 nn, .int .i64 K, .int .i64 sz, str s] 28) := ⟨_, rfl⟩
  have hb1 : Below W.heap.size W w1 := by rw [hw1]; exact (below_new W _).alloc (below_new W _).size _
  have CR : Cel w1 W.heap.size 33 #[.int .i64 0, .slice none 0 0] := by
    rw [hw1]
    exact (Cel.new W 33 _).turn (Turn.ofBelow (S := fun _ => False) (below_new _ _)) (fun h => h)
  have CX : Cel w1 (W.heap.size + 1) 28 #[.int .i64 kd, .int .i64 nn, .int .i64 K, .int .i64 sz, str s] := by
    rw [hw1, show W.heap.size + 1 = (W.alloc (.cells #[.int .i64 0, .slice none 0 0] 33)).heap.size by simp]
    exact Cel.new _ 28 _
  rw [← hw1]
  clear hw1 c0 c1 c2 c3 c4
  have CRR := CR
  go_wp2_with fail
  refine (placed_any 102 _ (by decide) _).mono ?_
  rintro e wl ⟨fb, rfl, hfb, _, hbl'⟩
  have hbl0 := hb1.trans (hbl'.mono hb1.size)
  have CL : Cel wl W.heap.size 33 #[.int .i64 0, .slice none 0 0] := CRR.below hbl' CRR.lt
  have l1 := CL.cell 0
  have l2 := CL.cell 1
  have l3 := CL.frozen 0
  have l4 := CL.frozen 1
  have HFR : Hid (Cel ((wl.setCell ⟨W.heap.size, 0, none⟩ (.int .i64 102)).setCell ⟨W.heap.size, 1, none⟩ (.slice (some ⟨fb, 0, none⟩) 1 1)) W.heap.size 33 #[.int .i64 102, .slice (some ⟨fb, 0, none⟩) 1 1]) := fault_ret CL
  have hbl : Below W.heap.size W ((wl.setCell ⟨W.heap.size, 0, none⟩ (.int .i64 102)).setCell ⟨W.heap.size, 1, none⟩ (.slice (some ⟨fb, 0, none⟩) 1 1)) := (hbl0.setCell (p := ⟨W.heap.size, 0, none⟩) (Nat.le_refl _) _).setCell (p := ⟨W.heap.size, 1, none⟩) (Nat.le_refl _) _
  clear CL hfb
  go_wp2_with fail
  refine bodyPost_ret (results_cell_row (p := 8) (ty := 33) rfl _ _ W.heap.size 33 _ (0, 0) _ rfl HFR.out Tryd.underlying33 rfl size33) rfl ?_
  exact ⟨_, ⟨_, _, _, rfl⟩, by decide, hbl⟩

set_option maxRecDepth 100000 in
set_option maxHeartbeats 8000000 in
theorem early_any (v : Value) (X : List Nd) (hl : X.length < 4294967296) (d : Nat) (hd : d < 30) (IH : LookC v X d) (at_ bad m : Nat) (x : Nd) (hx : X[at_]? = some x) (hm : x.size = m) (ham : at_ + m ≤ X.length) (kb : Nat) (hkb : reachN X (at_ + m) bad (at_ + 1) kb) (hkl : kb < at_ + m) (hbad : bad < 4294967296) (W : World) (hN : NdAt W v X) :
    Calls Tryd.prog 40 #[v, .int .i64 at_, .int .i64 (30 - d : Int), .int .i64 bad] W fun e w' => ∃ c, FaultIs e c ∧ c ≠ 0 ∧ Below W.heap.size W w' := by
  have HNW : Hid (∀ W', Below W.heap.size W W' → NdAt W' v X) := fun W' hb => hN.below hb (Nat.le_refl _)
  have HIH : Hid (LookC v X d) := IH
  have HRL : Hid (∀ i k, i ≤ bad → reachN X (at_ + m) i (at_ + 1) k → k < at_ + m) := reach_lt X (at_ + m) (at_ + 1) bad kb hkb hkl
  have hN1 := hN.below (below_new W (.cells #[.int .i64 0, .slice none 0 0] 33)) (Nat.le_refl _)
  obtain ⟨g, o, cap, hv, hg, c0, c1, c2, c3, c4⟩ := hN1.at hx
  subst hv
  obtain ⟨kd, nn, K, sz, s⟩ := x
  simp only at c0 c1 c2 c3 c4 hm
  subst hm
  have hatl : at_ < X.length := (List.getElem?_eq_some_iff.1 hx).1
  clear hN hN1 hx IH hkb hkl
  have hd30 : ¬ (30 : Int) < 30 - (d : Int) := by omega
  go_enter Tryd.func40, Tryd.ntmps40
  go_upto_region 2 with fail
  obtain ⟨w1, hw1⟩ : ∃ w1, w1 = (W.alloc (.cells #[.int .i64 0, .slice none 0 0] 33)).alloc (.cells #[.int .i64 kd, .int .i64 nn, .int .i64 K, .int .i64 (m : Nat), str s] 28) := ⟨_, rfl⟩
  have hb1 : Below W.heap.size W w1 := by rw [hw1]; exact (below_new W _).alloc (below_new W _).size _
  have CR : Cel w1 W.heap.size 33 #[.int .i64 0, .slice none 0 0] := by
    rw [hw1]
    exact (Cel.new W 33 _).turn (Turn.ofBelow (S := fun _ => False) (below_new _ _)) (fun h => h)
  have CX : Cel w1 (W.heap.size + 1) 28 #[.int .i64 kd, .int .i64 nn, .int .i64 K, .int .i64 (m : Nat), str s] := by
    rw [hw1, show W.heap.size + 1 = (W.alloc (.cells #[.int .i64 0, .slice none 0 0] 33)).heap.size by simp]
    exact Cel.new _ 28 _
  rw [← hw1]
  clear hw1 c0 c1 c2 c3 c4
  go_wp2_with fail
  go_loopw [10, 11] (fun v10 v11 wr => ∃ i k : Nat, v11 = .int .i64 i ∧ v10 = .int .i64 k ∧ i ≤ bad + 1 ∧ Hid (reachN X (at_ + m) i (at_ + 1) k) ∧ Below w1.heap.size w1 wr) (fun _ v11 _ => bad + 1 - (intOf v11).toNat)
  case atStart => exact ⟨0, at_ + 1, rfl, by simp, by omega, rfl, Below.refl _ _⟩
  case round =>
    obtain ⟨i, k, rfl, rfl, hi, HR, hbr⟩ := hrel
    have hbw := hb1.trans (hbr.mono hb1.size)
    have CRR : Cel wr W.heap.size 33 #[.int .i64 0, .slice none 0 0] := CR.below hbr CR.lt
    have HCX : Hid (Cel wr (W.heap.size + 1) 28 #[.int .i64 kd, .int .i64 nn, .int .i64 K, .int .i64 (m : Nat), str s]) := CX.below hbr CX.lt
    by_cases hib : i ≤ bad
    · have hib' : (i : Int) ≤ (bad : Int) := by omega
      have hkf : k < at_ + m := HRL.out i k hib HR.out
      obtain ⟨y, hy⟩ : ∃ y, X[k]? = some y := ⟨_, List.getElem?_eq_getElem (by omega)⟩
      have HY : Hid (X[k]? = some y) := hy
      have HS : Hid (∀ W', Below wr.heap.size wr W' → ToldL (W.heap.size + 1) kd K (m : Nat) W') := fun W' hb => by
        have := Cel.below HCX.out hb HCX.out.lt
        exact ⟨this.cell 0, this.cell 2, this.cell 3⟩
      have hcl := CRR
      have HLK : Hid (∀ W' cm, Below wr.heap.size wr W' → Calls Tryd.prog 26 #[.slice (some ⟨g, o, none⟩) X.length cap, .int .i64 k, .int .i64 (-1), .int .i64 ((at_ : Int) + (m : Nat)), .int .i64 (30 - (d : Int) + 1), .bool cm] W' fun e w' => ∃ c, FaultIs e c ∧ LookP X k (at_ + m) (-1) d c ∧ Below W'.heap.size W' w') := fun W' cm hb => by
        have := HIH.out k (at_ + m) (-1) cm W' (HNW.out _ (hbw.trans (hb.mono hbw.size))) hkf ham (by omega) (by omega)
        rw [show (31 - (d : Int)) = 30 - (d : Int) + 1 by omega] at this
        simpa using this
      clear hy CRR
      go_upto_region 8 with fail
      go_cut [12] from 28 to 42 (fun v12 wx => ∃ (bf : Nat) (c : Int) (ad : Option Addr) (n2 cp : Nat), v12 = .pointer (some ⟨bf, 0, none⟩) ∧ Hid (Cel wx bf 33 #[.int .i64 c, .slice ad n2 cp] ∧ LookP X k (at_ + m) (-1) d c ∧ Below wr.heap.size wr wx))
      case first => as_aux_lemma =>
        refine wp_region_held (S := ToldL (W.heap.size + 1) kd K (m : Nat)) (by kernel_rfl) ?_
        change wpAnyH _ _ _ _ _ _ _ _ (World.drew _)
        have hbd : Below wr.heap.size wr (World.drew wr) := ⟨rfl, rfl, rfl, Nat.le_refl _, fun _ _ => rfl⟩
        have hS0 := HS.out _ hbd
        refine wpAnyH_take (i := 0) (v := .slice (some ⟨g, o, none⟩) X.length cap) rfl (by kernel_rfl) (by kernel_rfl) (by kernel_rfl) (fun _ _ _ h => h) (Yields.yieldsIf (Or.inl ⟨by rfl, by intro wz; go_simp⟩)) hS0 ?_
        try simp only [Act.put, List.getElem_toArray, List.getElem_cons_zero, List.setIfInBounds_toArray, List.set_cons_zero, List.set_cons_succ]
        refine wpAnyH_take (i := 1) (v := .int .i64 (k : Nat)) rfl (by kernel_rfl) (by kernel_rfl) (by kernel_rfl) (fun _ _ _ h => h) (Yields.yieldsIf (Or.inl ⟨by rfl, by intro wz; go_simp⟩)) hS0 ?_
        try simp only [Act.put, List.getElem_toArray, List.getElem_cons_succ, List.getElem_cons_zero, List.setIfInBounds_toArray, List.set_cons_zero, List.set_cons_succ]
        refine wpAnyH_take (i := 2) (v := .int .i64 (at_ : Nat)) rfl (by kernel_rfl) (by kernel_rfl) (by kernel_rfl) (fun _ _ _ h => h) (Yields.yieldsIf (Or.inl ⟨by rfl, by intro wz; go_simp⟩)) hS0 ?_
        try simp only [Act.put, List.getElem_toArray, List.getElem_cons_succ, List.getElem_cons_zero, List.setIfInBounds_toArray, List.set_cons_zero, List.set_cons_succ]
        refine wpAnyH_take (i := 3) (v := .pointer (some ⟨W.heap.size + 1, 3, none⟩)) rfl (by kernel_rfl) (by kernel_rfl) (by kernel_rfl) (fun _ _ _ h => h) (Yields.yieldsIf (Or.inl ⟨by rfl, by intro wz; go_simp⟩)) hS0 ?_
        try simp only [Act.put, List.getElem_toArray, List.getElem_cons_succ, List.getElem_cons_zero, List.setIfInBounds_toArray, List.set_cons_zero, List.set_cons_succ]
        refine wpAnyH_take (i := 4) (v := .int .i64 (m : Nat)) rfl (by kernel_rfl) (by kernel_rfl) (by kernel_rfl) (fun _ _ _ h => h) (Or.inl ⟨by rfl, fun wz hS => by obtain ⟨s1, s2, s3⟩ := hS; go_simp⟩) hS0 ?_
        try simp only [Act.put, List.getElem_toArray, List.getElem_cons_succ, List.getElem_cons_zero, List.setIfInBounds_toArray, List.set_cons_zero, List.set_cons_succ]
        refine wpAnyH_take (i := 5) (v := .int .i64 ((at_ : Int) + (m : Nat))) rfl (by kernel_rfl) (by kernel_rfl) (by kernel_rfl) (fun _ _ _ h => h) (Yields.yieldsIf (Or.inl ⟨by rfl, by intro wz; go_simp; try (rw [IntKind.wrap_i64]; omega)⟩)) hS0 ?_
        try simp only [Act.put, List.getElem_toArray, List.getElem_cons_succ, List.getElem_cons_zero, List.setIfInBounds_toArray, List.set_cons_zero, List.set_cons_succ]
        refine wpAnyH_take (i := 6) (v := .int .i64 (30 - (d : Int))) rfl (by kernel_rfl) (by kernel_rfl) (by kernel_rfl) (fun _ _ _ h => h) (Yields.yieldsIf (Or.inl ⟨by rfl, by intro wz; go_simp⟩)) hS0 ?_
        try simp only [Act.put, List.getElem_toArray, List.getElem_cons_succ, List.getElem_cons_zero, List.setIfInBounds_toArray, List.set_cons_zero, List.set_cons_succ]
        refine wpAnyH_take (i := 7) (v := .int .i64 (30 - (d : Int) + 1)) rfl (by kernel_rfl) (by kernel_rfl) (by kernel_rfl) (fun _ _ _ h => h) (Yields.yieldsIf (Or.inl ⟨by rfl, by intro wz; go_simp; try (rw [IntKind.wrap_i64]; omega)⟩)) hS0 ?_
        try simp only [Act.put, List.getElem_toArray, List.getElem_cons_succ, List.getElem_cons_zero, List.setIfInBounds_toArray, List.set_cons_zero, List.set_cons_succ]
        refine wpAnyH_take (i := 8) (v := .pointer (some ⟨W.heap.size + 1, 0, none⟩)) rfl (by kernel_rfl) (by kernel_rfl) (by kernel_rfl) (fun _ _ _ h => h) (Yields.yieldsIf (Or.inl ⟨by rfl, by intro wz; go_simp⟩)) hS0 ?_
        try simp only [Act.put, List.getElem_toArray, List.getElem_cons_succ, List.getElem_cons_zero, List.setIfInBounds_toArray, List.set_cons_zero, List.set_cons_succ]
        refine wpAnyH_take (i := 9) (v := .int .i64 kd) rfl (by kernel_rfl) (by kernel_rfl) (by kernel_rfl) (fun _ _ _ h => h) (Or.inl ⟨by rfl, fun wz hS => by obtain ⟨s1, s2, s3⟩ := hS; go_simp⟩) hS0 ?_
        try simp only [Act.put, List.getElem_toArray, List.getElem_cons_succ, List.getElem_cons_zero, List.setIfInBounds_toArray, List.set_cons_zero, List.set_cons_succ]
        refine wpAnyH_take (i := 10) (v := .int .i64 (i : Nat)) rfl (by kernel_rfl) (by kernel_rfl) (by kernel_rfl) (fun _ _ _ h => h) (Yields.yieldsIf (Or.inl ⟨by rfl, by intro wz; go_simp⟩)) hS0 ?_
        try simp only [Act.put, List.getElem_toArray, List.getElem_cons_succ, List.getElem_cons_zero, List.setIfInBounds_toArray, List.set_cons_zero, List.set_cons_succ]
        refine wpAnyH_take (i := 11) (v := .pointer (some ⟨W.heap.size + 1, 2, none⟩)) rfl (by kernel_rfl) (by kernel_rfl) (by kernel_rfl) (fun _ _ _ h => h) (Yields.yieldsIf (Or.inl ⟨by rfl, by intro wz; go_simp⟩)) hS0 ?_
        try simp only [Act.put, List.getElem_toArray, List.getElem_cons_succ, List.getElem_cons_zero, List.setIfInBounds_toArray, List.set_cons_zero, List.set_cons_succ]
        refine wpAnyH_take (i := 12) (v := .int .i64 K) rfl (by kernel_rfl) (by kernel_rfl) (by kernel_rfl) (fun _ _ _ h => h) (Or.inl ⟨by rfl, fun wz hS => by obtain ⟨s1, s2, s3⟩ := hS; go_simp⟩) hS0 ?_
        try simp only [Act.put, List.getElem_toArray, List.getElem_cons_succ, List.getElem_cons_zero, List.setIfInBounds_toArray, List.set_cons_zero, List.set_cons_succ]
        refine wpAnyH_ready (rs := [13, 15]) (by kernel_rfl) (by simp) ?_
        refine AllReadyH.cons rfl (fun K' hK => ?_) ?_
        · go_simp
          refine (refcommand_any _ _ _ _).mono ?_
          rintro e w' ⟨⟨cm, rfl⟩, rfl⟩
          refine hK.out _ _ (HS.out _ hbd) (fun _ => ?_)
          clear hK K'
          try simp only [Act.put, List.getElem_toArray, List.getElem_cons_succ, List.getElem_cons_zero, List.setIfInBounds_toArray, List.set_cons_zero, List.set_cons_succ]
          refine wpAnyH_ready (rs := [14, 15]) (by kernel_rfl) (by simp) ?_
          refine AllReadyH.cons rfl (fun K' hK => ?_) ?_
          · go_simp
            refine Calls.mono (HLK.out _ cm hbd) ?_
            rintro e w2 ⟨c, ⟨adf, nf, cf, rfl⟩, hlp, hb2'⟩
            have hb2 := hbd.trans (hb2'.mono hbd.size)
            refine hK.out _ _ (HS.out _ hb2) (fun _ => ?_)
            clear hK K'
            try simp only [Act.put, List.getElem_toArray, List.getElem_cons_succ, List.getElem_cons_zero, List.setIfInBounds_toArray, List.set_cons_zero, List.set_cons_succ]
            refine wpAnyH_ready (rs := [15]) (by kernel_rfl) (by simp) ?_
            refine AllReadyH.cons rfl (fun K' hK => ?_) AllReadyH.nil
            go_simp
            have hb3 := hb2.alloc hb2.size (.cells #[.int .i64 0, .slice none 0 0] 33)
            have CF : Cel (w2.alloc (.cells #[.int .i64 0, .slice none 0 0] 33)) w2.heap.size 33 #[.int .i64 0, .slice none 0 0] := Cel.new _ _ _
            refine hK.out _ _ (HS.out _ hb3) (fun _ => ?_)
            clear hK K'
            try simp only [Act.put, List.getElem_toArray, List.getElem_cons_succ, List.getElem_cons_zero, List.setIfInBounds_toArray, List.set_cons_zero, List.set_cons_succ]
            refine wpAnyH_ready (rs := [16]) (by kernel_rfl) (by simp) ?_
            refine AllReadyH.cons rfl (fun K' hK => ?_) AllReadyH.nil
            have HF : Hid (Cel (w2.alloc (.cells #[.int .i64 c, .slice adf nf cf] 33)) w2.heap.size 33 #[.int .i64 c, .slice adf nf cf] ∧ Below wr.heap.size wr (w2.alloc (.cells #[.int .i64 c, .slice adf nf cf] 33))) := ⟨Cel.new _ _ _, hb2.alloc hb2.size _⟩
            have hS5 := HS.out _ HF.out.2
            clear CF
            go_simp
            refine hK.out _ _ hS5 (fun _ => ?_)
            clear hK K'
            refine wpAnyH_done (by kernel_rfl) ?_ _
            go_wp2_with fail
            go_meet
            case rel => exact ⟨_, c, adf, nf, cf, rfl, HF.out.1, hlp, HF.out.2⟩
          refine AllReadyH.cons rfl (fun K' hK => ?_) AllReadyH.nil
          go_simp
          have hba := hbd.alloc hbd.size (.cells #[.int .i64 0, .slice none 0 0] 33)
          have CFa : Cel (World.alloc (World.drew wr) (.cells #[.int .i64 0, .slice none 0 0] 33)) wr.heap.size 33 #[.int .i64 0, .slice none 0 0] := Cel.new (World.drew wr) _ _
          refine hK.out _ _ (HS.out _ hba) (fun _ => ?_)
          clear hK K'
          try simp only [Act.put, List.getElem_toArray, List.getElem_cons_succ, List.getElem_cons_zero, List.setIfInBounds_toArray, List.set_cons_zero, List.set_cons_succ]
          refine wpAnyH_ready (rs := [14]) (by kernel_rfl) (by simp) ?_
          refine AllReadyH.cons rfl (fun K' hK => ?_) AllReadyH.nil
          go_simp
          refine Calls.mono (HLK.out _ cm hba) ?_
          rintro e w2 ⟨c, ⟨adf, nf, cf, rfl⟩, hlp, hb2'⟩
          have hb2 := hba.trans (hb2'.mono hba.size)
          refine hK.out _ _ (HS.out _ hb2) (fun _ => ?_)
          clear hK K'
          try simp only [Act.put, List.getElem_toArray, List.getElem_cons_succ, List.getElem_cons_zero, List.setIfInBounds_toArray, List.set_cons_zero, List.set_cons_succ]
          have CF : Cel w2 wr.heap.size 33 #[.int .i64 0, .slice none 0 0] := Cel.below CFa hb2' CFa.lt
          have hb3 := hb2
          refine wpAnyH_ready (rs := [16]) (by kernel_rfl) (by simp) ?_
          refine AllReadyH.cons rfl (fun K' hK => ?_) AllReadyH.nil
          have c1 := CF.cell 0
          have c2 := CF.cell 1
          have f1 := CF.frozen 0
          have f2 := CF.frozen 1
          have CF2 := (CF.set (j := 0) (.int .i64 c)).set (j := 1) (.slice adf nf cf)
          have hbf : wr.heap.size ≤ wr.heap.size := Nat.le_refl _
          have hb5 := (hb3.setCell (p := ⟨wr.heap.size, 0, none⟩) hbf (.int .i64 c)).setCell (p := ⟨wr.heap.size, 1, none⟩) hbf (.slice adf nf cf)
          have HF : Hid (Cel _ wr.heap.size 33 #[.int .i64 c, .slice adf nf cf] ∧ Below wr.heap.size wr _) := ⟨CF2, hb5⟩
          have hS5 := HS.out _ hb5
          clear CF CF2 hb5
          go_simp
          refine hK.out _ _ hS5 (fun _ => ?_)
          clear hK K'
          refine wpAnyH_done (by kernel_rfl) ?_ _
          go_wp2_with fail
          go_meet
          case rel => exact ⟨_, c, adf, nf, cf, rfl, HF.out.1, hlp, HF.out.2⟩
        refine AllReadyH.cons rfl (fun K' hK => ?_) AllReadyH.nil
        go_simp
        have hba := hbd.alloc hbd.size (.cells #[.int .i64 0, .slice none 0 0] 33)
        have CFa : Cel (World.alloc (World.drew wr) (.cells #[.int .i64 0, .slice none 0 0] 33)) wr.heap.size 33 #[.int .i64 0, .slice none 0 0] := Cel.new (World.drew wr) _ _
        refine hK.out _ _ (HS.out _ hba) (fun _ => ?_)
        clear hK K'
        try simp only [Act.put, List.getElem_toArray, List.getElem_cons_succ, List.getElem_cons_zero, List.setIfInBounds_toArray, List.set_cons_zero, List.set_cons_succ]
        refine wpAnyH_ready (rs := [13]) (by kernel_rfl) (by simp) ?_
        refine AllReadyH.cons rfl (fun K' hK => ?_) AllReadyH.nil
        go_simp
        refine (refcommand_any _ _ _ _).mono ?_
        rintro e w' ⟨⟨cm, rfl⟩, rfl⟩
        refine hK.out _ _ (HS.out _ hba) (fun _ => ?_)
        clear hK K'
        try simp only [Act.put, List.getElem_toArray, List.getElem_cons_succ, List.getElem_cons_zero, List.setIfInBounds_toArray, List.set_cons_zero, List.set_cons_succ]
        refine wpAnyH_ready (rs := [14]) (by kernel_rfl) (by simp) ?_
        refine AllReadyH.cons rfl (fun K' hK => ?_) AllReadyH.nil
        go_simp
        refine Calls.mono (HLK.out _ cm hba) ?_
        rintro e w2 ⟨c, ⟨adf, nf, cf, rfl⟩, hlp, hb2'⟩
        have hb2 := hba.trans (hb2'.mono hba.size)
        refine hK.out _ _ (HS.out _ hb2) (fun _ => ?_)
        clear hK K'
        try simp only [Act.put, List.getElem_toArray, List.getElem_cons_succ, List.getElem_cons_zero, List.setIfInBounds_toArray, List.set_cons_zero, List.set_cons_succ]
        have CF : Cel w2 wr.heap.size 33 #[.int .i64 0, .slice none 0 0] := Cel.below CFa hb2' CFa.lt
        have hb3 := hb2
        refine wpAnyH_ready (rs := [16]) (by kernel_rfl) (by simp) ?_
        refine AllReadyH.cons rfl (fun K' hK => ?_) AllReadyH.nil
        have c1 := CF.cell 0
        have c2 := CF.cell 1
        have f1 := CF.frozen 0
        have f2 := CF.frozen 1
        have CF2 := (CF.set (j := 0) (.int .i64 c)).set (j := 1) (.slice adf nf cf)
        have hbf : wr.heap.size ≤ wr.heap.size := Nat.le_refl _
        have hb5 := (hb3.setCell (p := ⟨wr.heap.size, 0, none⟩) hbf (.int .i64 c)).setCell (p := ⟨wr.heap.size, 1, none⟩) hbf (.slice adf nf cf)
        have HF : Hid (Cel _ wr.heap.size 33 #[.int .i64 c, .slice adf nf cf] ∧ Below wr.heap.size wr _) := ⟨CF2, hb5⟩
        have hS5 := HS.out _ hb5
        clear CF CF2 hb5
        go_simp
        refine hK.out _ _ hS5 (fun _ => ?_)
        clear hK K'
        refine wpAnyH_done (by kernel_rfl) ?_ _
        go_wp2_with fail
        go_meet
        case rel => exact ⟨_, c, adf, nf, cf, rfl, HF.out.1, hlp, HF.out.2⟩
      case rest =>
        obtain ⟨bf, c, ad, n2, cp, rfl, HF⟩ := hcut
        have f1 := HF.out.1.cell 0
        have f2 := HF.out.1.cell 1
        have hbx := HF.out.2.2
        have hbwx := hbw.trans (hbx.mono hbw.size)
        have CRR : Cel wc W.heap.size 33 #[.int .i64 0, .slice none 0 0] := hcl.below hbx hcl.lt
        by_cases hc0 : c = 0
        · subst hc0
          obtain ⟨m2, y2, hy2, hs2, h12, hm2, _, _⟩ := HF.out.2.1 rfl
          have hye : y2 = y := by rw [HY.out] at hy2; exact (Option.some.inj hy2).symm
          subst hye
          obtain ⟨g', o', cap', hv, hg', d0, d1, d2, d3, d4⟩ := (HNW.out _ hbwx).at HY.out
          cases hv
          have HR2 : Hid (reachN X (at_ + m) (i + 1) (at_ + 1) (k + m2)) := ⟨k, HR.out, y2, HY.out, by omega, by rw [hs2]; omega, by rw [hs2]; omega⟩
          obtain ⟨ykd, yn, yk, ysz, ys⟩ := y2
          simp only at d3 hs2
          subst hs2
          clear d0 d1 d2 d4 hy2
          go_wp2_with fail
          exact ⟨⟨i + 1, k + m2, by simp, by simp, by omega, HR2.out, hbr.trans (hbx.mono hbr.size)⟩, by simp [intOf]; omega⟩
        · have l1 := CRR.cell 0
          have l2 := CRR.cell 1
          have l3 := CRR.frozen 0
          have l4 := CRR.frozen 1
          have HFR : Hid (Cel ((wc.setCell ⟨W.heap.size, 0, none⟩ (.int .i64 c)).setCell ⟨W.heap.size, 1, none⟩ (.slice ad n2 cp)) W.heap.size 33 #[.int .i64 c, .slice ad n2 cp]) := fault_ret CRR
          have hbl : Below W.heap.size W ((wc.setCell ⟨W.heap.size, 0, none⟩ (.int .i64 c)).setCell ⟨W.heap.size, 1, none⟩ (.slice ad n2 cp)) := (hbwx.setCell (p := ⟨W.heap.size, 0, none⟩) (Nat.le_refl _) _).setCell (p := ⟨W.heap.size, 1, none⟩) (Nat.le_refl _) _
          have hc0' : (c != 0) = true := by simpa using hc0
          clear CRR
          go_wp2_with fail
          refine bodyPost_ret (results_cell_row (p := 8) (ty := 33) rfl _ _ W.heap.size 33 _ (0, 0) _ rfl HFR.out Tryd.underlying33 rfl size33) rfl ?_
          exact ⟨c, ⟨_, _, _, rfl⟩, hc0, hbl⟩
    · have hib' : ¬ (i : Int) ≤ (bad : Int) := by omega
      go_wp2_with fail
      refine (placed_any 110 _ (by decide) _).mono ?_
      rintro e wl ⟨fb, rfl, hfb, _, hbl'⟩
      have hbl0 := hbw.trans (hbl'.mono hbw.size)
      have CL : Cel wl W.heap.size 33 #[.int .i64 0, .slice none 0 0] := CRR.below hbl' CRR.lt
      have l1 := CL.cell 0
      have l2 := CL.cell 1
      have l3 := CL.frozen 0
      have l4 := CL.frozen 1
      have HFR : Hid (Cel ((wl.setCell ⟨W.heap.size, 0, none⟩ (.int .i64 110)).setCell ⟨W.heap.size, 1, none⟩ (.slice (some ⟨fb, 0, none⟩) 1 1)) W.heap.size 33 #[.int .i64 110, .slice (some ⟨fb, 0, none⟩) 1 1]) := fault_ret CL
      have hbl : Below W.heap.size W ((wl.setCell ⟨W.heap.size, 0, none⟩ (.int .i64 110)).setCell ⟨W.heap.size, 1, none⟩ (.slice (some ⟨fb, 0, none⟩) 1 1)) := (hbl0.setCell (p := ⟨W.heap.size, 0, none⟩) (Nat.le_refl _) _).setCell (p := ⟨W.heap.size, 1, none⟩) (Nat.le_refl _) _
      clear CL hfb
      go_wp2_with fail
      refine bodyPost_ret (results_cell_row (p := 8) (ty := 33) rfl _ _ W.heap.size 33 _ (0, 0) _ rfl HFR.out Tryd.underlying33 rfl size33) rfl ?_
      exact ⟨_, ⟨_, _, _, rfl⟩, by decide, hbl⟩
end Go.Proofs.YtgabodcbhjcmiaaDoor
